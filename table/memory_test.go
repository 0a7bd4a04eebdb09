package table

import (
	"cmp"
	"math"
	"math/rand"
	"slices"
	"testing"

	"boarder/api"
)

// spoilt is what the tests write over memory: nothing may ever answer it.
var spoilt = api.Lease{Addr: 3, State: api.Bound, Expiry: api.MaxTime, Key: "ispoilt"}

// roomy answers a copy of a list with spare capacity that is filled.
func roomy(l []api.Lease) []api.Lease {
	big := append(slices.Clone(l), slices.Repeat([]api.Lease{spoilt}, 40)...)
	return big[:len(l)]
}

// all answers a list with what stands in its spare capacity.
func all(l []api.Lease) []api.Lease {
	return l[:cap(l)]
}

// fill overwrites a list, and its spare capacity.
func fill(l []api.Lease) {
	for i := range all(l) {
		all(l)[i] = spoilt
	}
}

// lists answers the calls that answer lists.
func lists() []func([]api.Lease) []api.Lease {
	return []func([]api.Lease) []api.Lease{
		func(l []api.Lease) []api.Lease { s, _ := Set(l, at(0, 7)); return s },
		func(l []api.Lease) []api.Lease { s, _ := Set(l, at(1, 7)); return s },
		func(l []api.Lease) []api.Lease { s, _ := Set(l, at(3, 7)); return s },
		func(l []api.Lease) []api.Lease { s, _ := Set(l, at(4, 7)); return s },
		func(l []api.Lease) []api.Lease { s, _ := Set(l, at(128, 7)); return s },
		func(l []api.Lease) []api.Lease { s, _ := Set(l, at(api.MaxAddr, 7)); return s },
		func(l []api.Lease) []api.Lease {
			if len(l) == 0 {
				return nil
			}
			s, _ := Set(l, l[len(l)-1])
			return s
		},
		func(l []api.Lease) []api.Lease { return Of(l, "i01") },
		func(l []api.Lease) []api.Lease { return Of(l, "hab") },
		func(l []api.Lease) []api.Lease { return Sweep(l, math.MinInt) },
		func(l []api.Lease) []api.Lease { return Sweep(l, 10) },
	}
}

// memoryLists answers lists of which the answers could be pieces, each with spare capacity.
func memoryLists() [][]api.Lease {
	counting := even(9)
	for i := range counting {
		counting[i].State, counting[i].Key = api.Bound, "i01"
	}
	var ls [][]api.Lease
	for _, l := range slices.Concat(tables(), [][]api.Lease{counting}, noTables()) {
		ls = append(ls, roomy(l))
	}
	return ls
}

func TestMemory(t *testing.T) { // P0, R3: the list stays as it is, and answers share nothing with it, nor with each other
	for i, l := range memoryLists() {
		before := slices.Clone(all(l))
		for j, call := range lists() {
			one, two := call(l), call(l)
			want := slices.Clone(one)
			fill(one)
			if !slices.Equal(all(l), before) {
				t.Fatalf("list %d, call %d: changed or shared", i, j)
			}
			if !slices.Equal(two, want) {
				t.Fatalf("list %d, call %d: two answers share memory", i, j)
			}
			fill(l)
			if !slices.Equal(two, want) {
				t.Fatalf("list %d, call %d: the list is kept", i, j)
			}
			copy(all(l), before)
			if again := call(l); !slices.Equal(again, want) { // R4
				t.Fatalf("list %d, call %d: %s, and then %s", i, j, tell(want...), tell(again...))
			}
		}
	}
}

func TestMemoryOfOthers(t *testing.T) { // P0, R3: the calls that answer no list change none
	for i, l := range memoryLists() {
		before := slices.Clone(all(l))
		Right(l)
		for _, a := range []int{-1, 1, 2, 3, 5, 128, 129, api.MaxAddr} {
			Get(l, a)
			Free(l, a, "i01", 9)
		}
		if !slices.Equal(all(l), before) {
			t.Fatalf("list %d is changed", i)
		}
	}
}

func TestSpareCapacity(t *testing.T) { // P0, R3: what stands behind a list is none of it
	behind := slices.Clone(someTable)
	l := behind[:2]
	gets(t, l, 5, api.Lease{}, false)
	ofs(t, l, "i01", leaseA)
	sweeps(t, l, 9, leaseA, leaseB)
	sets(t, l, leaseE, []api.Lease{leaseA, leaseB, leaseE}, api.OK)
	if !slices.Equal(behind, someTable) {
		t.Errorf("what stands behind the list is changed: %s", tell(behind...))
	}
}

// anyLease answers a lease of any numbers, edges above all.
func anyLease(r *rand.Rand) api.Lease {
	edges := []int{math.MinInt, -1, 0, 1, 2, 3, 4, 64, api.MaxAddr, api.MaxAddr + 1, api.MaxTime, api.MaxTime + 1, math.MaxInt, int(r.Uint64())}
	l := randomLease(r, 9)
	switch r.Intn(9) {
	case 0:
		l.Addr = edges[r.Intn(len(edges))]
	case 1:
		l.State = edges[r.Intn(len(edges))]
	case 2:
		l.Expiry = edges[r.Intn(len(edges))]
	case 3:
		l.Key = someKeys[r.Intn(len(someKeys))]
	}
	return l
}

func TestAnything(t *testing.T) { // P0: no call panics, and each answers what the chapter says, for any list, lease, key and moment
	r := rand.New(rand.NewSource(120))
	seen := map[bool]int{}
	for range 20000 {
		l := make([]api.Lease, []int{0, 1, 2, 3, 4, 70}[r.Intn(6)])
		for i := range l {
			l[i] = anyLease(r)
		}
		if r.Intn(2) == 0 {
			slices.SortFunc(l, func(x, y api.Lease) int { return cmp.Compare(x.Addr>>1, y.Addr>>1) }) // nearly in order
		}
		x := anyLease(r)
		a, k, now := anyLease(r).Addr, anyLease(r).Key, anyLease(r).Expiry
		is := handRight(l)
		seen[is]++
		right(t, l, is)
		want, there := byAddr(l)[a]
		gets(t, l, a, want, there)
		s, e := handSet(l, x)
		sets(t, l, x, s, e)
		ofs(t, l, k, inOrder(byAddr(l), func(x api.Lease) bool { return x.Key == k })...)
		counting(t, x, now, x.State == 1 && now < x.Expiry, x.State == 3 && now < x.Expiry)
		frees(t, l, a, k, now, handFree(l, a, k, now))
		sweeps(t, l, now, handSweep(l, now)...)
	}
	if seen[true] < 2000 || seen[false] < 2000 {
		t.Errorf("too few of one kind: %v", seen)
	}
}
