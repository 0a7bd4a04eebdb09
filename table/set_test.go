package table

import (
	"math/rand"
	"slices"
	"testing"

	"boarder/api"
)

// sets: does Set answer just this?
func sets(t *testing.T, l []api.Lease, x api.Lease, want []api.Lease, wantE api.Errno) {
	t.Helper()
	if got, e := Set(l, x); !slices.Equal(got, want) || e != wantE {
		t.Errorf("Set of %s in %s: %s, %d, not %s, %d", tell(x), tell(l...), tell(got...), e, tell(want...), wantE)
	}
}

func TestSetWords(t *testing.T) { // P12.2: written out by hand
	sets(t, nil, leaseB, []api.Lease{leaseB}, api.OK)
	sets(t, []api.Lease{}, leaseB, []api.Lease{leaseB}, api.OK)
	sets(t, []api.Lease{leaseB}, leaseA, []api.Lease{leaseA, leaseB}, api.OK)
	sets(t, []api.Lease{leaseB}, leaseC, []api.Lease{leaseB, leaseC}, api.OK)
	sets(t, []api.Lease{leaseA, leaseC}, leaseB, []api.Lease{leaseA, leaseB, leaseC}, api.OK)
	sets(t, []api.Lease{leaseB}, at(2, 7), []api.Lease{at(2, 7)}, api.OK)
	sets(t, someTable, at(1, 7), []api.Lease{at(1, 7), leaseB, leaseC, leaseD, leaseE}, api.OK)
	sets(t, someTable, at(5, 7), []api.Lease{leaseA, leaseB, at(5, 7), leaseD, leaseE}, api.OK)
	sets(t, someTable, at(api.MaxAddr, 7), []api.Lease{leaseA, leaseB, leaseC, leaseD, at(api.MaxAddr, 7)}, api.OK)
	sets(t, someTable, at(0, 7), []api.Lease{at(0, 7), leaseA, leaseB, leaseC, leaseD, leaseE}, api.OK)
	sets(t, someTable, at(3, 7), []api.Lease{leaseA, leaseB, at(3, 7), leaseC, leaseD, leaseE}, api.OK)
	sets(t, someTable, at(api.MaxAddr-1, 7), []api.Lease{leaseA, leaseB, leaseC, leaseD, at(api.MaxAddr-1, 7), leaseE}, api.OK)
	sets(t, someTable[:4], leaseE, someTable, api.OK)
	for _, l := range someTable {
		sets(t, someTable, l, someTable, api.OK) // the same lease once more
	}
}

func TestSetEverywhere(t *testing.T) { // P12.2: at each place, and in the place of each lease, of tables of each length
	for _, l := range tables() {
		for _, a := range addrsAround(l) {
			x := at(a, 3)
			want, wantE := handSet(l, x)
			sets(t, l, x, want, wantE)
		}
	}
}

func TestSetFull(t *testing.T) { // P12.2: a full table takes a lease of its addresses alone
	full := even(64)
	for i := range full {
		x := at(2*i+2, 3)
		want := slices.Clone(full)
		want[i] = x
		sets(t, full, x, want, api.OK)
		sets(t, full, at(2*i+1, 3), nil, api.ErrFull)
		sets(t, full, at(2*i+3, 3), nil, api.ErrFull)
		less := slices.Delete(slices.Clone(full), i, i+1)
		sets(t, less, full[i], full, api.OK) // one less is not full
	}
	sets(t, full, at(0, 3), nil, api.ErrFull)
	sets(t, full, leaseE, nil, api.ErrFull)
	sets(t, even(63), at(0, 3), append([]api.Lease{at(0, 3)}, even(63)...), api.OK)
	sets(t, even(63), leaseE, append(even(63), leaseE), api.OK)
}

func TestSetWrong(t *testing.T) { // P12.2: a lease that is not valid comes first, with a full table too
	for _, w := range wrongLeases() {
		for _, l := range slices.Concat(tables(), noTables()) {
			sets(t, l, w, nil, api.ErrArg)
		}
		for _, a := range []int{1, 2, 128, 129} {
			w.Addr = a
			if !handValid(w) {
				sets(t, even(64), w, nil, api.ErrArg)
			}
		}
	}
}

func TestSetInNone(t *testing.T) { // P12.2: the empty table takes the place of a list that is none
	for _, l := range noTables() {
		for _, x := range []api.Lease{leaseA, leaseC, leaseE, at(3, 3), at(128, 3)} {
			sets(t, l, x, []api.Lease{x}, api.OK)
		}
	}
}

func TestSetAny(t *testing.T) { // P12.2: the new lease stands as it is, whatever state, expiry and key the old one has
	var some []api.Lease
	for state := 1; state <= 3; state++ {
		for _, expiry := range []int{0, 9, api.MaxTime} {
			for _, k := range []string{"i01", "hab"} {
				some = append(some, api.Lease{Addr: 3, State: state, Expiry: expiry, Key: k})
			}
		}
	}
	for _, old := range some {
		for _, l := range some {
			sets(t, []api.Lease{old}, l, []api.Lease{l}, api.OK)
			sets(t, []api.Lease{leaseA, old, leaseC}, l, []api.Lease{leaseA, l, leaseC}, api.OK)
		}
	}
}

func TestGetAfterSet(t *testing.T) { // P12.4
	for _, l := range tables() {
		m, around := byAddr(l), addrsAround(l)
		for _, a := range around {
			x := api.Lease{Addr: a, State: api.Declined, Expiry: 77, Key: "iget"}
			s, e := Set(l, x)
			if e != api.OK {
				continue
			}
			right(t, s, true)
			for _, b := range around {
				want, there := m[b]
				if b == a {
					want, there = x, true
				}
				gets(t, s, b, want, there)
			}
		}
	}
}

// orders answers all orders of a list.
func orders(l []api.Lease) [][]api.Lease {
	if len(l) == 0 {
		return [][]api.Lease{nil}
	}
	var all [][]api.Lease
	for i, x := range l {
		for _, rest := range orders(slices.Delete(slices.Clone(l), i, i+1)) {
			all = append(all, append([]api.Lease{x}, rest...))
		}
	}
	return all
}

// setAll sets leases one by one, and holds what comes of it against the latest lease of each address.
func setAll(t *testing.T, l []api.Lease) {
	t.Helper()
	latest := map[int]api.Lease{}
	var got []api.Lease
	for _, x := range l {
		var e api.Errno
		if got, e = Set(got, x); e != api.OK {
			t.Fatalf("Set of %s: error %d", tell(x), e)
		}
		latest[x.Addr] = x
		if want := inOrder(latest, every); !slices.Equal(got, want) {
			t.Fatalf("after Set of %s: %s, not %s", tell(x), tell(got...), tell(want...))
		}
	}
}

func TestSetInAnyOrder(t *testing.T) { // P12.5: all orders of a few leases, two of some addresses
	for _, l := range orders(someTable) {
		setAll(t, l)
	}
	for _, l := range orders([]api.Lease{leaseA, at(1, 7), leaseB, at(2, 7), at(2, 8), leaseE}) {
		setAll(t, l)
	}
}

func TestSetMany(t *testing.T) { // P12.5: rising, falling and mixed, until the table is full and beyond
	full := even(64)
	falling := slices.Clone(full)
	slices.Reverse(falling)
	setAll(t, full)
	setAll(t, falling)
	r := rand.New(rand.NewSource(125))
	for range 200 {
		r.Shuffle(len(full), func(i, j int) { full[i], full[j] = full[j], full[i] })
		setAll(t, full)
	}
	for range 200 {
		var l []api.Lease
		for range 300 {
			l = append(l, randomLease(r, 1+r.Intn(64)))
		}
		setAll(t, l)
	}
}

func TestSetHistories(t *testing.T) { // P12.2, P12.5, R4: with leases for which there is no room, and with wrong ones
	r := rand.New(rand.NewSource(122))
	wrong := wrongLeases()
	seen := map[api.Errno]int{}
	for range 100 {
		var l []api.Lease
		for range 200 {
			x := randomLease(r, 100)
			if r.Intn(5) == 0 {
				x = wrong[r.Intn(len(wrong))]
			}
			want, wantE := handSet(l, x)
			sets(t, l, x, want, wantE)
			sets(t, l, x, want, wantE)
			seen[wantE]++
			if wantE == api.OK {
				l = want
			}
		}
	}
	if seen[api.OK] < 1000 || seen[api.ErrFull] < 1000 || seen[api.ErrArg] < 1000 || len(seen) != 3 {
		t.Errorf("too few of some: %v", seen)
	}
}
