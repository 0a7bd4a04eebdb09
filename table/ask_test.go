package table

import (
	"math"
	"slices"
	"testing"

	"boarder/api"
)

// right: does Right answer just this?
func right(t *testing.T, l []api.Lease, want bool) {
	t.Helper()
	if got := Right(l); got != want {
		t.Errorf("Right of %s: %v", tell(l...), got)
	}
}

// gets: does Get answer just this?
func gets(t *testing.T, l []api.Lease, a int, want api.Lease, there bool) {
	t.Helper()
	if got, ok := Get(l, a); got != want || ok != there {
		t.Errorf("Get of %d in %s: %s, %v, not %s, %v", a, tell(l...), tell(got), ok, tell(want), there)
	}
}

// ofs: does Of answer just this?
func ofs(t *testing.T, l []api.Lease, k string, want ...api.Lease) {
	t.Helper()
	if got := Of(l, k); !slices.Equal(got, want) {
		t.Errorf("Of %.20q in %s: %s, not %s", k, tell(l...), tell(got...), tell(want...))
	}
}

func TestRight(t *testing.T) { // P12.1
	for _, l := range tables() {
		right(t, l, true)
	}
	for _, l := range noTables() {
		right(t, l, false)
	}
}

func TestRightNumbers(t *testing.T) { // P12.1: as many leases as a table may have
	for n := range 300 {
		right(t, even(n), n <= 64)
	}
	right(t, slices.Repeat(even(64), 2), false)
	right(t, slices.Repeat([]api.Lease{leaseA}, 64), false)
	right(t, make([]api.Lease, 64), false)
	right(t, even(1<<16), false)
	right(t, even(1<<16 + 64)[1<<16:], true) // a table's addresses need not begin anywhere
}

func TestRightOrder(t *testing.T) { // P12.1: each two addresses, one behind the other
	addrs := []int{0, 1, 2, 255, 256, 65535, 65536, 1<<31 - 1, 1 << 31, api.MaxAddr - 1, api.MaxAddr}
	for i, a := range addrs {
		for j, b := range addrs {
			right(t, []api.Lease{at(a, 3), at(b, 3)}, i < j)
			right(t, []api.Lease{at(a, 3), at(b, 9)}, i < j)
			right(t, []api.Lease{at(a, 9), at(b, 3)}, i < j)
			for k, c := range addrs {
				right(t, []api.Lease{at(a, 3), at(b, 3), at(c, 3)}, i < j && j < k)
			}
		}
	}
}

func TestRightEvery(t *testing.T) { // P12.1: all short lists of these leases
	some := []api.Lease{{}, leaseA, leaseB, at(2, 5), leaseE, {Addr: 3, State: 1, Key: "x"}, {Addr: -1, State: 1, Key: "i01"}, {Addr: api.MaxAddr + 1, State: 1, Key: "i01"}}
	all := [][]api.Lease{nil}
	for i := 0; i < len(all) && len(all[i]) < 4; i++ {
		for _, l := range some {
			all = append(all, append(slices.Clone(all[i]), l))
		}
	}
	many := 0
	for _, l := range all {
		want := handRight(l)
		right(t, l, want)
		if want {
			many++
		}
	}
	if len(all) != 1+8+64+512+4096 || many != 1+4+5+2 {
		t.Errorf("%d lists, %d of them tables", len(all), many)
	}
}

func TestGetWords(t *testing.T) { // P12.1: written out by hand
	for _, a := range []int{math.MinInt, -1, 0, 1, math.MaxInt} {
		gets(t, nil, a, api.Lease{}, false)
		gets(t, []api.Lease{}, a, api.Lease{}, false)
	}
	one := []api.Lease{leaseC}
	gets(t, one, 4, api.Lease{}, false)
	gets(t, one, 5, leaseC, true)
	gets(t, one, 6, api.Lease{}, false)
	for a, want := range map[int]api.Lease{1: leaseA, 2: leaseB, 5: leaseC, 256: leaseD, 4294967295: leaseE} {
		gets(t, someTable, a, want, true)
	}
	for _, a := range []int{math.MinInt, -1, 0, 3, 4, 6, 255, 257, 4294967294, 4294967296, 4294967297, 1<<32 + 5, math.MaxInt} {
		gets(t, someTable, a, api.Lease{}, false)
	}
}

func TestGet(t *testing.T) { // P12.1: below, between, at and above all addresses of tables of each length
	for _, l := range slices.Concat(tables(), noTables()) {
		m := byAddr(l)
		for _, a := range addrsAround(l) {
			want, there := m[a]
			gets(t, l, a, want, there)
		}
	}
}

func TestGetNone(t *testing.T) { // P12.1: the empty table takes the place of a list that is none
	for _, l := range noTables() {
		for _, x := range l {
			gets(t, l, x.Addr, api.Lease{}, false)
		}
	}
}

func TestOfWords(t *testing.T) { // P12.1: written out by hand
	for _, k := range someKeys {
		ofs(t, nil, k)
		ofs(t, []api.Lease{}, k)
	}
	ofs(t, someTable, "i01", leaseA, leaseC)
	ofs(t, someTable, "hab", leaseB, leaseD)
	ofs(t, someTable, leaseE.Key, leaseE)
	for _, k := range []string{"", "i", "i0", "i02", "i011", "i01\x00", "h01", "iab", "ab", "HAB", "x"} {
		ofs(t, someTable, k)
	}
	l := []api.Lease{{Addr: 3, State: 3, Expiry: 9, Key: "i\xff\x00"}, {Addr: 4, State: 2, Expiry: 0, Key: "i\xff"[:2] + "\x00"}, {Addr: 5, State: 1, Expiry: 1, Key: "i\xff\x00\x00"}}
	ofs(t, l, "i\xff\x00", l[0], l[1])
	ofs(t, l, "i\xff\x00\x00", l[2])
	ofs(t, l, "i\xff")
}

func TestOf(t *testing.T) { // P12.1: with no lease, one, several and all
	for _, l := range slices.Concat(tables(), noTables()) {
		keys := someKeys
		for _, x := range l {
			keys = append(keys[:len(keys):len(keys)], x.Key)
		}
		m := byAddr(l)
		slices.Sort(keys[len(someKeys):])
		for _, k := range slices.Compact(keys) {
			ofs(t, l, k, inOrder(m, func(x api.Lease) bool { return x.Key == k })...)
		}
	}
	full := even(64)
	for i := range full {
		full[i].Key = "i02"
	}
	ofs(t, full, "i02", full...)
	full[63].Key = "i03"
	ofs(t, full, "i02", full[:63]...)
	ofs(t, full, "i03", full[63])
}

func TestOfNone(t *testing.T) { // P12.1: the empty table takes the place of a list that is none
	for _, l := range noTables() {
		for _, x := range l {
			ofs(t, l, x.Key)
		}
	}
}
