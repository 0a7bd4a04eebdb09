package table

import (
	"math"
	"math/rand"
	"slices"
	"testing"

	"boarder/api"
)

// counting: do Holds and Rests answer just this?
func counting(t *testing.T, l api.Lease, now int, holds, rests bool) {
	t.Helper()
	if h, r := Holds(l, now), Rests(l, now); h != holds || r != rests {
		t.Errorf("Holds and Rests of %s at %d: %v, %v", tell(l), now, h, r)
	}
}

// frees: does Free answer just this?
func frees(t *testing.T, l []api.Lease, a int, k string, now int, want bool) {
	t.Helper()
	if got := Free(l, a, k, now); got != want {
		t.Errorf("Free of %d for %.20q at %d in %s: %v", a, k, now, tell(l...), got)
	}
}

// sweeps: does Sweep answer just this?
func sweeps(t *testing.T, l []api.Lease, now int, want ...api.Lease) {
	t.Helper()
	if got := Sweep(l, now); !slices.Equal(got, want) {
		t.Errorf("Sweep at %d of %s: %s, not %s", now, tell(l...), tell(got...), tell(want...))
	}
}

func TestExample(t *testing.T) { // the chapter's example
	bound := api.Lease{Addr: 7, State: api.Bound, Expiry: 10, Key: "i01"}
	counting(t, bound, 9, true, false)
	counting(t, bound, 10, false, false)
	declined := api.Lease{Addr: 7, State: api.Declined, Expiry: 10, Key: "i01"}
	for _, k := range someKeys {
		frees(t, []api.Lease{declined}, 7, k, 9, false)
		frees(t, []api.Lease{declined}, 7, k, 10, true)
	}
}

func TestCountingWords(t *testing.T) { // P12.3: written out by hand
	for _, expiry := range []int{0, 1, 10, 255, 256, 1 << 31, 1 << 32, api.MaxTime - 1, api.MaxTime} {
		for _, before := range []int{math.MinInt, -1 << 32, expiry - 256, expiry - 2, expiry - 1} {
			counting(t, api.Lease{Addr: 1, State: 1, Expiry: expiry, Key: "i01"}, before, true, false)
			counting(t, api.Lease{Addr: 1, State: 2, Expiry: expiry, Key: "i01"}, before, false, false)
			counting(t, api.Lease{Addr: 1, State: 3, Expiry: expiry, Key: "i01"}, before, false, true)
		}
		for _, after := range []int{expiry, expiry + 1, expiry + 2, expiry + 256, expiry + 1<<32, math.MaxInt - 1, math.MaxInt} {
			for state := 1; state <= 3; state++ {
				counting(t, api.Lease{Addr: 1, State: state, Expiry: expiry, Key: "i01"}, after, false, false)
			}
		}
	}
}

func TestCountingWrong(t *testing.T) { // P12.3: the state and the expiry decide, in a lease that is not valid too
	for _, w := range append(wrongLeases(), api.Lease{Expiry: 10}, api.Lease{State: 1, Expiry: 10}, api.Lease{State: 3, Expiry: 10}, api.Lease{Addr: -1, State: 3, Expiry: math.MaxInt}) {
		for _, state := range []int{math.MinInt, -3, -1, 0, 1, 2, 3, 4, 5, 257, 259, 1<<32 + 1, 1<<32 + 3, math.MaxInt, w.State} {
			w.State = state
			for _, now := range momentsAround([]api.Lease{w}) {
				counting(t, w, now, state == 1 && now < w.Expiry, state == 3 && now < w.Expiry)
			}
		}
	}
}

func TestFreeWords(t *testing.T) { // P12.3: written out by hand
	for _, now := range []int{math.MinInt, -1, 0, 8, 9} {
		frees(t, someTable, 1, "i01", now, true)  // bound to this client
		frees(t, someTable, 1, "i02", now, false) // bound to another one
		frees(t, someTable, 1, "hab", now, false)
		frees(t, someTable, 1, "", now, false)
		frees(t, someTable, 2, "hab", now, false) // declined by this client
		frees(t, someTable, 2, "i01", now, false) // declined by another one
		frees(t, someTable, 2, "", now, false)
		frees(t, someTable, 5, "i01", now, true) // released by this client
		frees(t, someTable, 5, "i02", now, true) // released by another one
		frees(t, someTable, 5, "", now, true)
		for _, a := range []int{math.MinInt, -1, 0, 3, 4, 6, 255, 257, api.MaxAddr - 1, api.MaxAddr + 1, 1<<32 + 1, 1<<32 + 2, math.MaxInt} {
			for _, k := range someKeys {
				frees(t, someTable, a, k, now, true) // no lease at all
			}
		}
	}
	for _, now := range []int{10, 11, api.MaxTime - 1, api.MaxTime, math.MaxInt} {
		for _, k := range someKeys {
			for _, a := range []int{1, 2, 5} {
				frees(t, someTable, a, k, now, true)
			}
		}
	}
	frees(t, someTable, 256, "i01", 10, false) // its expiry is 11
	frees(t, someTable, 256, "i01", 11, true)
	frees(t, someTable, api.MaxAddr, "i01", api.MaxTime-1, false)
	frees(t, someTable, api.MaxAddr, leaseE.Key, api.MaxTime-1, true)
	frees(t, someTable, api.MaxAddr, "i01", api.MaxTime, true)
}

func TestFreeKeys(t *testing.T) { // P12.3: any other key is another client's, however much alike
	for _, own := range []string{"i01", "hab", "h\x01\x02\x00\x00\x00\x00\x07", "i\x00\x00"} {
		for _, k := range append(someKeys, own+"\x00", own+"x", own[:len(own)-1], own[1:], "x"+own) {
			frees(t, []api.Lease{{Addr: 3, State: api.Bound, Expiry: 10, Key: own}}, 3, k, 9, k == own)
			frees(t, []api.Lease{{Addr: 3, State: api.Released, Expiry: 10, Key: own}}, 3, k, 9, true)
			frees(t, []api.Lease{{Addr: 3, State: api.Declined, Expiry: 10, Key: own}}, 3, k, 9, false)
		}
	}
}

func TestFree(t *testing.T) { // P12.3: all addresses, clients and moments around a table
	all := [][]api.Lease{someTable, even(1), even(2), even(9), tables()[3], tables()[4], tables()[5], tables()[6], even(64)}
	for _, l := range all {
		moments := momentsAround(l)
		if len(l) == 64 {
			moments = []int{math.MinInt, 99, 100, 131, 132, 163, 164, math.MaxInt}
		}
		for _, a := range addrsAround(l) {
			for _, k := range someKeys {
				for _, now := range moments {
					frees(t, l, a, k, now, handFree(l, a, k, now))
				}
			}
		}
	}
}

func TestFreeInNone(t *testing.T) { // P12.3: the empty table takes the place of a list that is none
	for _, l := range append(noTables(), nil, []api.Lease{}) {
		for _, a := range []int{math.MinInt, -1, 0, 1, 2, 5, 256, api.MaxAddr, math.MaxInt} {
			for _, now := range []int{math.MinInt, -1, 0, 9, 10, math.MaxInt} {
				frees(t, l, a, "i01", now, true)
				frees(t, l, a, "i02", now, true)
				frees(t, l, a, "", now, true)
			}
		}
		for _, x := range l {
			frees(t, l, x.Addr, "ino", math.MinInt, true)
			frees(t, l, x.Addr, x.Key, math.MinInt, true)
		}
	}
}

func TestSweepWords(t *testing.T) { // P12.3: written out by hand
	for _, now := range []int{math.MinInt, -1, 0, 9} {
		sweeps(t, someTable, now, leaseA, leaseB, leaseD, leaseE)
	}
	sweeps(t, someTable, 10, leaseD, leaseE)
	sweeps(t, someTable, 11, leaseE)
	sweeps(t, someTable, api.MaxTime-1, leaseE)
	sweeps(t, someTable, api.MaxTime)
	sweeps(t, someTable, math.MaxInt)
	for _, now := range []int{math.MinInt, -1, 0, 1, math.MaxInt} {
		sweeps(t, nil, now)
		sweeps(t, []api.Lease{}, now)
		sweeps(t, []api.Lease{leaseC}, now)
	}
	soon := []api.Lease{{Addr: 1, State: 1, Expiry: 0, Key: "i01"}, {Addr: 2, State: 3, Expiry: 0, Key: "i01"}, {Addr: 3, State: 1, Expiry: 1, Key: "i01"}, {Addr: 4, State: 3, Expiry: 1, Key: "i01"}}
	sweeps(t, soon, -1, soon...)
	sweeps(t, soon, 0, soon[2:]...)
	sweeps(t, soon, 1)
}

func TestSweep(t *testing.T) { // P12.3, R4
	for _, l := range tables() {
		for _, now := range momentsAround(l) {
			sweeps(t, l, now, handSweep(l, now)...)
			sweeps(t, l, now, handSweep(l, now)...)
			right(t, Sweep(l, now), true)
		}
	}
	full := even(64)
	for i := range full {
		full[i].State = []int{api.Bound, api.Declined}[i%2]
	}
	sweeps(t, full, 99, full...) // a full table of leases that all count
	sweeps(t, full, 100, full[1:]...)
	sweeps(t, full, 162, full[63])
	sweeps(t, full, 163)
}

func TestSweepOfNone(t *testing.T) { // P12.3: the empty table takes the place of a list that is none
	for _, l := range noTables() {
		for _, now := range []int{math.MinInt, -1, 0, 9, 10, math.MaxInt} {
			sweeps(t, l, now)
		}
	}
}

// unswept holds P12.6 of a table: at that moment, and at later ones.
func unswept(t *testing.T, l []api.Lease, now int) {
	t.Helper()
	s := Sweep(l, now)
	for _, later := range []int{now, now + 1, now + 5, api.MaxTime, math.MaxInt} {
		if later < now {
			continue
		}
		for _, a := range addrsAround(l) {
			for _, k := range []string{"i01", "i02", "hab", leaseE.Key, ""} {
				if before, after := Free(l, a, k, later), Free(s, a, k, later); before != after {
					t.Fatalf("Free of %d for %q at %d: %v, and %v after Sweep at %d of %s", a, k, later, before, after, now, tell(l...))
				}
			}
		}
	}
}

func TestSweepKeepsFree(t *testing.T) { // P12.6
	for _, l := range append(tables()[:12], even(9), even(64)) {
		for _, now := range momentsAround(l[:min(len(l), 9)]) {
			unswept(t, l, now)
		}
	}
	r := rand.New(rand.NewSource(126))
	for range 300 {
		unswept(t, randomTable(r), r.Intn(22)-1)
	}
}

func TestAnyTable(t *testing.T) { // P12.1, P12.3, R4
	r := rand.New(rand.NewSource(123))
	seen := map[bool]int{}
	for range 5000 {
		l := randomTable(r)
		a, k, now := r.Intn(102)-1, []string{"i01", "i02", "hab", "ino"}[r.Intn(4)], r.Intn(24)-2
		if len(l) > 0 && r.Intn(2) == 0 {
			a = l[r.Intn(len(l))].Addr
		}
		want, there := byAddr(l)[a]
		free := handFree(l, a, k, now)
		for range 2 {
			right(t, l, true)
			gets(t, l, a, want, there)
			ofs(t, l, k, inOrder(byAddr(l), func(x api.Lease) bool { return x.Key == k })...)
			frees(t, l, a, k, now, free)
			sweeps(t, l, now, handSweep(l, now)...)
		}
		seen[free]++
	}
	if seen[true] < 500 || seen[false] < 500 {
		t.Errorf("too few of one kind: %v", seen)
	}
}
