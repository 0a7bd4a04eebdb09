package clean

import (
	"math"
	"math/rand"
	"slices"
	"testing"

	"boarder/api"
)

// lasts: does Last answer just this?
func lasts(t *testing.T, l, want []api.Lease) {
	t.Helper()
	if got := Last(l); !slices.Equal(got, want) {
		t.Errorf("Last of %d leases %v: %v, not %v", len(l), l[:min(len(l), 9)], got, want)
	}
}

// at answers a valid lease of an address, which its expiry tells from the others.
func at(a, serial int) api.Lease {
	return api.Lease{Addr: a, State: api.Bound, Expiry: serial, Key: "i01"}
}

// everyList answers all lists of up to so many leases of these addresses.
func everyList(most int, addrs ...int) [][]api.Lease {
	all := [][]api.Lease{nil}
	from := 0
	for n := range most {
		until := len(all)
		for _, l := range all[from:until] {
			for _, a := range addrs {
				all = append(all, append(slices.Clone(l), at(a, n)))
			}
		}
		from = until
	}
	return all
}

// randomList answers leases of a few addresses, some of which are none, and of which some leases aren't valid.
func randomList(r *rand.Rand, most int) []api.Lease {
	addrs := []int{0, 1, 2, 3, 255, 256, 1 << 31, api.MaxAddr - 1, api.MaxAddr, api.MaxAddr + 1, -1, math.MinInt, math.MaxInt}
	addrs = addrs[:1+r.Intn(len(addrs))]
	l := make([]api.Lease, r.Intn(most))
	for i := range l {
		l[i] = at(addrs[r.Intn(len(addrs))], i)
		switch r.Intn(6) {
		case 0:
			l[i].State, l[i].Expiry = r.Intn(9)-2, -i
		case 1:
			l[i].Key = ""
		}
	}
	return l
}

func TestExample(t *testing.T) { // the chapter's example
	a := api.Lease{Addr: 2, State: 1, Key: "iaa"}
	b := api.Lease{Addr: 1, State: 1, Key: "ibb"}
	c := api.Lease{Addr: 2, State: 1, Key: "icc"}
	lasts(t, []api.Lease{a, b, c}, []api.Lease{b, c})
}

func TestLastWords(t *testing.T) { // P11.1: written out by hand
	lasts(t, nil, nil)
	lasts(t, []api.Lease{}, nil)
	lasts(t, []api.Lease{leaseA}, []api.Lease{leaseA})
	lasts(t, []api.Lease{leaseA, leaseA}, []api.Lease{leaseA})
	lasts(t, []api.Lease{leaseA, laterA}, []api.Lease{laterA})
	lasts(t, []api.Lease{laterA, leaseA}, []api.Lease{leaseA})
	lasts(t, []api.Lease{leaseA, laterA, leaseA}, []api.Lease{leaseA})
	lasts(t, []api.Lease{leaseA, leaseB}, []api.Lease{leaseA, leaseB})
	lasts(t, []api.Lease{leaseB, leaseA}, []api.Lease{leaseA, leaseB})
	lasts(t, []api.Lease{leaseB, leaseA, leaseB}, []api.Lease{leaseA, leaseB})
	lasts(t, []api.Lease{leaseA, leaseB, laterA}, []api.Lease{laterA, leaseB})
	lasts(t, someLease, []api.Lease{shortest, laterA, leaseB, longest, leaseC})
}

func TestLastOrder(t *testing.T) { // P11.1: the last place in the list decides, and no field of the lease
	early := api.Lease{Addr: 5, State: api.Declined, Expiry: api.MaxTime, Key: "izzz"}
	late := api.Lease{Addr: 5, State: api.Bound, Key: "haaa"}
	lasts(t, []api.Lease{early, late}, []api.Lease{late})
	lasts(t, []api.Lease{late, early}, []api.Lease{early})
	var rising, falling, mixed []api.Lease
	for i := range 300 {
		rising = append(rising, at(i*1000, i))
		falling = append(falling, at((299-i)*1000, 299-i))
		mixed = append(mixed, rising[i*77%(i+1)])
	}
	lasts(t, rising, rising)
	lasts(t, falling, rising)
	lasts(t, slices.Concat(rising, falling), rising)
	lasts(t, mixed, handLast(mixed))
}

func TestLastOfOneAddress(t *testing.T) { // P11.1: also where there are many, of which a sort may lose the order
	for _, a := range []int{0, 7, api.MaxAddr} {
		var l, between []api.Lease
		for i := range 400 {
			l = append(l, at(a, i))
			lasts(t, l, []api.Lease{at(a, i)})
			between = append(between, at(a, i), at(1000+i%7, i))
			if i%13 == 0 {
				lasts(t, between, handLast(between))
			}
		}
	}
}

func TestLastEdges(t *testing.T) { // P11.1: the least and the greatest addresses
	addrs := []int{math.MinInt, math.MinInt + 1, -1, 0, 1, 1<<31 - 1, 1 << 31, api.MaxAddr - 1, api.MaxAddr, api.MaxAddr + 1, math.MaxInt - 1, math.MaxInt}
	var rising, falling []api.Lease
	for i, a := range addrs {
		rising = append(rising, at(a, i))
		falling = append([]api.Lease{at(a, i)}, falling...)
		for j, b := range addrs[:i] {
			lasts(t, []api.Lease{at(a, 1), at(b, 2)}, []api.Lease{at(b, 2), at(a, 1)})
			lasts(t, []api.Lease{at(b, 1), at(a, 2)}, []api.Lease{at(b, 1), at(a, 2)})
			lasts(t, []api.Lease{at(b, i), at(a, j), at(b, j)}, []api.Lease{at(b, j), at(a, j)})
		}
	}
	lasts(t, rising, rising)
	lasts(t, falling, rising)
}

func TestLastWrong(t *testing.T) { // P11.1: leases that aren't valid are like others
	for _, w := range wrongLeases() {
		lasts(t, []api.Lease{w}, []api.Lease{w})
		right := at(w.Addr, 5)
		lasts(t, []api.Lease{right, w}, []api.Lease{w})
		lasts(t, []api.Lease{w, right}, []api.Lease{right})
		l := slices.Concat([]api.Lease{leaseB, w}, someLease, []api.Lease{w})
		lasts(t, l, handLast(l))
	}
	lasts(t, wrongLeases(), handLast(wrongLeases()))
}

func TestLastEvery(t *testing.T) { // P11.1, P11.4: all short lists
	for _, l := range append(everyList(6, 4, 1, 9), everyList(4, math.MaxInt, 0, -1, math.MinInt, 2)...) {
		lasts(t, l, handLast(l))
		latest(t, l)
	}
}

// latest holds P11.4 of a list.
func latest(t *testing.T, l []api.Lease) {
	t.Helper()
	last := Last(l)
	lasts(t, last, last)
	lasts(t, slices.Concat(l, last), last)
	for i, x := range last {
		if !slices.Contains(l, x) || i > 0 && last[i-1].Addr >= x.Addr {
			t.Errorf("lease %d of %v: %v", i, l, x)
		}
	}
}

func TestLastRandom(t *testing.T) { // P11.1, P11.4, R4
	r := rand.New(rand.NewSource(111))
	for i := range 3000 {
		l := randomList(r, 20+i%200)
		lasts(t, l, handLast(l))
		lasts(t, l, handLast(l))
		latest(t, l)
	}
}

func TestLastOfMany(t *testing.T) { // P11.1, P0: any number of leases
	r := rand.New(rand.NewSource(112))
	l := make([]api.Lease, 100000)
	for i := range l {
		l[i] = at(r.Intn(1<<(i%32)), i)
	}
	lasts(t, l, handLast(l))
	latest(t, l[:2000])
	last := Last(l)
	lasts(t, last, last)
}
