package table

import (
	"fmt"
	"maps"
	"math"
	"math/rand"
	"slices"
	"strconv"
	"strings"
	"testing"

	"boarder/api"
)

// Leases that are valid, of rising addresses: each state, and both kinds of keys.
var (
	leaseA    = api.Lease{Addr: 1, State: api.Bound, Expiry: 10, Key: "i01"}
	leaseB    = api.Lease{Addr: 2, State: api.Declined, Expiry: 10, Key: "hab"}
	leaseC    = api.Lease{Addr: 5, State: api.Released, Expiry: 10, Key: "i01"}
	leaseD    = api.Lease{Addr: 256, State: api.Bound, Expiry: 11, Key: "hab"}
	leaseE    = api.Lease{Addr: api.MaxAddr, State: api.Bound, Expiry: api.MaxTime, Key: "h\x01\x02\x00\x00\x00\x00\x07"}
	someTable = []api.Lease{leaseA, leaseB, leaseC, leaseD, leaseE}
)

// someKeys are keys that are alike in part, and texts that are none.
var someKeys = []string{"i01", "i02", "i011", "i0\x00", "h01", "hab", "iab", "h\x01\x02\x00\x00\x00\x00\x07", "I01", "", "i", "i0", "01", " i01", "i01\x00", "i" + strings.Repeat("x", 256)}

// at answers a valid lease of an address, which its expiry tells from the others.
func at(a, serial int) api.Lease {
	return api.Lease{Addr: a, State: api.Bound, Expiry: serial, Key: "i01"}
}

// even answers a table of n leases, of the addresses 2, 4, 6 and so on.
func even(n int) []api.Lease {
	var t []api.Lease
	for i := range n {
		t = append(t, api.Lease{Addr: 2*i + 2, State: i%3 + 1, Expiry: 100 + i, Key: []string{"i01", "i02", "hab"}[i%5%3]})
	}
	return t
}

// wrongLeases answers leases that are not valid: like leaseC in all but one thing, so that they could stand in its place where their addresses let them.
func wrongLeases() []api.Lease {
	var all []api.Lease
	for _, f := range []func(*api.Lease){
		func(l *api.Lease) { *l = api.Lease{} },
		func(l *api.Lease) { l.Addr = -1 },
		func(l *api.Lease) { l.Addr = api.MaxAddr + 1 },
		func(l *api.Lease) { l.Addr = math.MinInt },
		func(l *api.Lease) { l.Addr = math.MaxInt },
		func(l *api.Lease) { l.State = 0 },
		func(l *api.Lease) { l.State = 4 },
		func(l *api.Lease) { l.State = -1 },
		func(l *api.Lease) { l.State = 257 },
		func(l *api.Lease) { l.State = math.MinInt },
		func(l *api.Lease) { l.State = math.MaxInt },
		func(l *api.Lease) { l.Expiry = -1 },
		func(l *api.Lease) { l.Expiry = api.MaxTime + 1 },
		func(l *api.Lease) { l.Expiry = math.MinInt },
		func(l *api.Lease) { l.Expiry = math.MaxInt },
		func(l *api.Lease) { l.Key = "" },
		func(l *api.Lease) { l.Key = "i1" },
		func(l *api.Lease) { l.Key = "k01" },
		func(l *api.Lease) { l.Key = "h" + strings.Repeat("x", 18) },
		func(l *api.Lease) { l.Key = "i" + strings.Repeat("x", 256) },
		func(l *api.Lease) { l.Key = "i" + strings.Repeat("x", 100000) },
	} {
		l := leaseC
		f(&l)
		all = append(all, l)
	}
	return all
}

// tables answers lists that are tables: of each length, with the least and the greatest addresses, and with the shortest and the longest keys.
func tables() [][]api.Lease {
	all := [][]api.Lease{
		nil,
		{},
		someTable,
		{{State: api.Bound, Key: "i\x00\x00"}, {Addr: 1, State: api.Released, Key: "i" + strings.Repeat("\xff", 255)}},
		{{Addr: 0, State: api.Declined, Expiry: api.MaxTime, Key: "h" + strings.Repeat("x", 17)}, leaseE},
		{{Addr: 1<<31 - 1, State: 1, Expiry: 9, Key: "hab"}, {Addr: 1 << 31, State: 1, Expiry: 8, Key: "hab"}, {Addr: 1<<31 + 1, State: 1, Expiry: 7, Key: "hab"}},
		{{Addr: api.MaxAddr - 1, State: 3, Expiry: 5, Key: "iii"}, {Addr: api.MaxAddr, State: 3, Expiry: 5, Key: "iii"}},
	}
	for _, l := range someTable {
		all = append(all, []api.Lease{l})
	}
	for n := 1; n <= api.MaxLeases; n++ {
		all = append(all, even(n))
	}
	return all
}

// noTables answers lists that are no tables. What is wrong with them stands ahead of, between and behind leases that would be found.
func noTables() [][]api.Lease {
	var all [][]api.Lease
	for _, w := range wrongLeases() {
		all = append(all, []api.Lease{w}, []api.Lease{leaseA, leaseB, w, leaseD, leaseE}, []api.Lease{w, leaseD}, []api.Lease{leaseA, w})
	}
	full := even(api.MaxLeases)
	for i := range full {
		twice, swapped, spoilt := slices.Clone(full), slices.Clone(full), slices.Clone(full)
		if i > 0 {
			twice[i].Addr = twice[i-1].Addr
			swapped[i], swapped[i-1] = swapped[i-1], swapped[i]
			all = append(all, twice, swapped)
		}
		spoilt[i].State = 0
		all = append(all, spoilt)
	}
	falling := slices.Clone(someTable)
	slices.Reverse(falling)
	all = append(all, falling, []api.Lease{leaseA, leaseA}, []api.Lease{leaseE, leaseE}, []api.Lease{leaseB, leaseA}, []api.Lease{leaseA, leaseB, leaseA})
	for _, n := range []int{api.MaxLeases + 1, api.MaxLeases + 2, 2 * api.MaxLeases, 256, 257, 1000} {
		all = append(all, even(n))
	}
	return all
}

// handValid: is a lease valid, by the words of the chapters 7 and 9?
func handValid(l api.Lease) bool {
	k := strings.HasPrefix(l.Key, "i") && len(l.Key) >= 3 && len(l.Key) <= 256 || strings.HasPrefix(l.Key, "h") && len(l.Key) >= 3 && len(l.Key) <= 18
	return k && l.Addr >= 0 && l.Addr < 1<<32 && l.State >= 1 && l.State <= 3 && l.Expiry >= 0 && l.Expiry <= 1<<50
}

// handRight: is a list a table, by the chapter's words?
func handRight(t []api.Lease) bool {
	sorted := slices.SortedFunc(slices.Values(t), func(l, m api.Lease) int {
		switch {
		case l.Addr < m.Addr:
			return -1
		case l.Addr > m.Addr:
			return 1
		}
		return 0
	})
	seen := map[int]bool{}
	for _, l := range t {
		if !handValid(l) || seen[l.Addr] {
			return false
		}
		seen[l.Addr] = true
	}
	return len(t) <= 64 && slices.Equal(t, sorted)
}

// byAddr answers the leases of a table by their addresses: none of a list that is no table.
func byAddr(t []api.Lease) map[int]api.Lease {
	m := map[int]api.Lease{}
	if handRight(t) {
		for _, l := range t {
			m[l.Addr] = l
		}
	}
	return m
}

// inOrder answers those of the leases that are wanted, in the order of their addresses.
func inOrder(m map[int]api.Lease, wanted func(api.Lease) bool) []api.Lease {
	var t []api.Lease
	for _, a := range slices.Sorted(maps.Keys(m)) {
		if wanted(m[a]) {
			t = append(t, m[a])
		}
	}
	return t
}

// every: all leases are wanted.
func every(api.Lease) bool {
	return true
}

// handSet answers what P12.2 says.
func handSet(t []api.Lease, l api.Lease) ([]api.Lease, api.Errno) {
	m := byAddr(t)
	_, there := m[l.Addr]
	switch {
	case !handValid(l):
		return nil, api.ErrArg
	case !there && len(m) == 64:
		return nil, api.ErrFull
	}
	m[l.Addr] = l
	return inOrder(m, every), api.OK
}

// counts: is a lease active, or is it quarantined?
func counts(l api.Lease, now int) bool {
	return (l.State == 1 || l.State == 3) && l.Expiry > now
}

// handFree answers what P12.3 says.
func handFree(t []api.Lease, a int, k string, now int) bool {
	l, there := byAddr(t)[a]
	if !there || !counts(l, now) {
		return true
	}
	return l.State == 1 && l.Key == k
}

// handSweep answers what P12.3 says.
func handSweep(t []api.Lease, now int) []api.Lease {
	return inOrder(byAddr(t), func(l api.Lease) bool { return counts(l, now) })
}

// addrsAround answers the addresses of a list, those beside them, and numbers that are no addresses.
func addrsAround(t []api.Lease) []int {
	all := []int{math.MinInt, math.MinInt + 1, -1 << 32, -1, 0, 1, 1 << 31, api.MaxAddr - 1, api.MaxAddr, api.MaxAddr + 1, api.MaxAddr + 2, math.MaxInt - 1, math.MaxInt}
	for _, l := range t {
		all = append(all, l.Addr-1, l.Addr, l.Addr+1, l.Addr+1<<32, l.Addr-1<<32)
	}
	slices.Sort(all)
	return slices.Compact(all)
}

// momentsAround answers the expiries of a list, the moments beside them, and numbers that are no points in time.
func momentsAround(t []api.Lease) []int {
	all := []int{math.MinInt, math.MinInt + 1, -1, 0, 1, api.MaxTime - 1, api.MaxTime, api.MaxTime + 1, math.MaxInt - 1, math.MaxInt}
	for _, l := range t {
		all = append(all, l.Expiry-1, l.Expiry, l.Expiry+1)
	}
	slices.Sort(all)
	return slices.Compact(all)
}

// randomLease answers a valid lease of one of so many addresses.
func randomLease(r *rand.Rand, addrs int) api.Lease {
	return api.Lease{Addr: r.Intn(addrs), State: 1 + r.Intn(3), Expiry: r.Intn(20), Key: []string{"i01", "i02", "hab"}[r.Intn(3)]}
}

// randomTable answers a table of up to MaxLeases leases.
func randomTable(r *rand.Rand) []api.Lease {
	m := map[int]api.Lease{}
	for range r.Intn(api.MaxLeases + 1) {
		l := randomLease(r, 100)
		m[l.Addr] = l
	}
	return inOrder(m, every)
}

// tell answers a list in a few words.
func tell(t ...api.Lease) string {
	s := strconv.Itoa(len(t)) + " leases"
	for _, l := range t[:min(len(t), 9)] {
		s += fmt.Sprintf(" {%d %d %d %.20q}", l.Addr, l.State, l.Expiry, l.Key)
	}
	return s
}

func TestFixtures(t *testing.T) { // what the other tests lean on
	for i, l := range tables() {
		if !handRight(l) {
			t.Errorf("list %d is no table: %s", i, tell(l...))
		}
	}
	for i, l := range noTables() {
		if handRight(l) {
			t.Errorf("list %d is a table: %s", i, tell(l...))
		}
	}
	for i, l := range wrongLeases() {
		if handValid(l) {
			t.Errorf("lease %d is valid", i)
		}
	}
}
