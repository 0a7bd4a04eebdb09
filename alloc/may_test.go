package alloc

import (
	"math"
	"math/rand"
	"slices"
	"testing"

	"boarder/api"
)

// inFirst answers the addresses of the first network of wide() that any client may get, and further ones.
func inFirst(more ...int) []int {
	return append(more, ten+20, ten+10, ten+12, ten+13, second+41, second+1)
}

// without answers a list without some of its elements.
func without(l []int, out ...int) []int {
	return slices.DeleteFunc(l, func(a int) bool { return slices.Contains(out, a) })
}

func TestMayUnused(t *testing.T) { // P15.1, P15.4: reservations and pools, when no address is leased
	c := wide()
	gets(t, c, nil, 0, "i01", inFirst(ten+5)...)
	gets(t, c, nil, 0, "i02", inFirst(ten+11)...)
	gets(t, c, nil, 0, "i03", inFirst(second+40)...)
	gets(t, c, nil, 0, "i04", inFirst()...) // its reservation is of another network
	gets(t, c, nil, 0, "h01", inFirst()...)
	gets(t, c, nil, 1, "i01", other+1, other+2)
	gets(t, c, nil, 1, "i02", other+2, other+9)
	gets(t, c, nil, 1, "i03", other+2)
	gets(t, c, nil, 2, "i03")
	gets(t, c, nil, 2, "i04", lone+1)
	all := slices.DeleteFunc(spots(), func(a int) bool { return a < 1 || a > 1<<24-2 })
	gets(t, c, nil, 3, "i01", append(all, high+1, high+2)...)
}

func TestMayExample(t *testing.T) { // P15.1: the chapter's example
	for a := ten - 2; a < ten+260; a++ {
		pooled := a >= ten+10 && a <= ten+20
		mays(t, example(), nil, 0, "i01", a, now, pooled || a == ten+5)
		mays(t, example(), nil, 0, "i02", a, now, pooled)
	}
}

func TestMayHeldByAnother(t *testing.T) { // P15.1, P15.4: another client's lease of the address
	c, a := wide(), ten+10
	for _, l := range []api.Lease{bound(a, "i09"), declined(a, "i09")} {
		gets(t, c, tableOf(l), 0, "i01", without(inFirst(ten+5), a)...)
		mays(t, c, tableOf(l), 0, "i01", a, later-1, false)
		mays(t, c, tableOf(l), 0, "i01", a, later, true)
		mays(t, c, tableOf(l), 0, "i01", a, later+1, true)
		mays(t, c, tableOf(l), 0, "i01", a, math.MinInt, false)
		mays(t, c, tableOf(l), 0, "i01", a, math.MaxInt, true)
	}
	for _, l := range []api.Lease{ended(a, "i09"), rested(a, "i09"), released(a, "i09")} {
		gets(t, c, tableOf(l), 0, "i01", inFirst(ten+5)...)
		mays(t, c, tableOf(l), 0, "i01", a, now-1, l.State == api.Released)
	}
}

func TestMayReservedAndHeld(t *testing.T) { // P15.1, P15.4: a reservation counts only while its address is free
	c := wide()
	for _, x := range []struct {
		k      string
		net, a int
	}{{"i01", 0, ten + 5}, {"i02", 0, ten + 11}, {"i01", 1, other + 1}, {"i02", 1, other + 9}, {"i04", 2, lone + 1}} {
		mays(t, c, nil, x.net, x.k, x.a, now, true)
		for _, l := range []api.Lease{bound(x.a, "i09"), declined(x.a, "i09"), declined(x.a, x.k)} {
			mays(t, c, tableOf(l), x.net, x.k, x.a, later-1, false)
			mays(t, c, tableOf(l), x.net, x.k, x.a, later, true)
		}
		for _, l := range []api.Lease{bound(x.a, x.k), released(x.a, "i09"), ended(x.a, "i09"), rested(x.a, "i09")} {
			mays(t, c, tableOf(l), x.net, x.k, x.a, now, true)
			mays(t, c, tableOf(l), x.net, "i09", x.a, now, false)
		}
		// A lease makes no address one's own that is reserved for another client.
		mays(t, c, tableOf(bound(x.a, "i09")), x.net, "i09", x.a, now, false)
	}
}

func TestMayOwnLease(t *testing.T) { // P15.1: the client's own active lease of the address is in no way
	c := wide()
	for _, a := range inFirst(ten + 5) {
		gets(t, c, tableOf(bound(a, "i01")), 0, "i01", a)
		for _, l := range []api.Lease{released(a, "i01"), ended(a, "i01"), rested(a, "i01")} {
			gets(t, c, tableOf(l), 0, "i01", inFirst(ten+5)...)
		}
		// A quarantine is for the client itself, too, but of this address alone.
		gets(t, c, tableOf(declined(a, "i01")), 0, "i01", without(inFirst(ten+5), a)...)
	}
}

func TestMayOwnLeaseElsewhere(t *testing.T) { // P15.1: an active lease of another address in the same network, pooled or not
	c := wide()
	for _, held := range []int{ten, ten + 4, ten + 5, ten + 11, ten + 13, ten + 255, second, second + 1, second + 255} {
		l := tableOf(bound(held, "i01"))
		var want []int
		if slices.Contains(inFirst(ten+5), held) {
			want = append(want, held)
		}
		gets(t, c, l, 0, "i01", want...)
		gets(t, c, l, 1, "i01", other+1, other+2)
		mays(t, c, l, 0, "i01", ten+12, later-1, false)
		mays(t, c, l, 0, "i01", ten+12, later, true)
		gets(t, c, l, 0, "i02", without(inFirst(ten+11), held)...)
	}
}

func TestMayOwnLeaseOutside(t *testing.T) { // P15.1: an active lease of an address in another network, or in none
	c := wide()
	for _, held := range []int{other, other + 1, other + 1<<16 - 1, bare, bare + 10, lone + 1, high, 7, ten - 1, second + 256, 50 << 24, other + 1<<16} {
		gets(t, c, tableOf(bound(held, "i01")), 0, "i01", inFirst(ten+5)...)
	}
	several := tableOf(allBound("i01", ten-1, other+2, bare+9, high+1, 99<<24)...)
	gets(t, c, several, 0, "i01", inFirst(ten+5)...)
	gets(t, c, several, 1, "i01", other+2)
	gets(t, c, several, 2, "i01")
}

func TestMayTwoOwnLeases(t *testing.T) { // P15.1: of two active leases in a network each is in the other's way
	c := wide()
	gets(t, c, tableOf(allBound("i01", ten+10, ten+12)...), 0, "i01")
	gets(t, c, tableOf(allBound("i01", ten+5, second+1)...), 0, "i01")
	gets(t, c, tableOf(allBound("i01", ten+9, ten+10)...), 0, "i01")
	gets(t, c, tableOf(bound(ten+10, "i01"), ended(ten+12, "i01")), 0, "i01", ten+10)
	gets(t, c, tableOf(released(ten+10, "i01"), bound(ten+12, "i01")), 0, "i01", ten+12)
	gets(t, c, tableOf(declined(ten+10, "i01"), bound(ten+12, "i01")), 0, "i01", ten+12)
	gets(t, c, tableOf(bound(ten+10, "i01"), bound(other+1, "i01")), 0, "i01", ten+10)
}

func TestMayOnlyWholeKeys(t *testing.T) { // P15.1: a key counts with all of its bytes
	c := wide()
	gets(t, c, tableOf(bound(ten+10, "i01")), 0, "i011", without(inFirst(), ten+10)...)
	gets(t, c, tableOf(bound(ten+10, "i011")), 0, "i01", without(inFirst(ten+5), ten+10)...)
	gets(t, c, tableOf(bound(ten+10, "h01")), 0, "i01", without(inFirst(ten+5), ten+10)...)
}

func TestMayRefuses(t *testing.T) { // P15.1, P0: a configuration, a table, a key and a network that are wrong, each alone
	c, a := wide(), ten+10
	for _, w := range wrongConfigs() {
		gets(t, w, nil, 0, "i01")
	}
	for _, l := range wrongTables() {
		gets(t, c, l, 0, "i01")
	}
	for _, k := range wrongKeys() {
		gets(t, c, nil, 0, k)
	}
	for _, net := range []int{math.MinInt, -1 << 32, -4, -1, 4, 5, 256, 1 << 32, math.MaxInt} {
		gets(t, c, nil, net, "i01")
	}
	gets(t, empty(), nil, 0, "i01")
	gets(t, example(), nil, 1, "i01")
	mays(t, c, nil, 0, "i01", a, now, true)
}

func TestMayExtremes(t *testing.T) { // P15.1, P0: any address, network and moment
	c := wide()
	l := tableOf(bound(ten+10, "i01"), declined(high+1, "i01"), api.Lease{Addr: api.MaxAddr, State: api.Bound, Expiry: api.MaxTime, Key: "i02"}, api.Lease{Addr: 0, State: api.Bound, Key: "i02"})
	for _, net := range extremes() {
		for _, a := range extremes() {
			for _, now := range extremes() {
				for _, k := range []string{"i01", "i02", "i"} {
					mays(t, c, l, net, k, a, now, handMay(c, l, net, k, a, now))
				}
			}
		}
	}
}

func TestMayRandom(t *testing.T) { // P15.1: against the chapter's words read a second time
	r := rand.New(rand.NewSource(151))
	yes, no := 0, 0
	for range 40000 {
		c, l := randomConfig(r), randomTable(r)
		net, k, a, now := r.Intn(3)-r.Intn(2), oneOf(r, someKeys()), randomSpot(r, c), now-2+r.Intn(5)
		want := handMay(c, l, net, k, a, now)
		mays(t, c, l, net, k, a, now, want)
		if want {
			yes++
		} else if handRight(c, l, net, k) {
			no++
		}
	}
	if yes < 500 || no < 5000 {
		t.Errorf("only %d yes, %d no", yes, no)
	}
}
