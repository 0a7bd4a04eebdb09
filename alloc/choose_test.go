package alloc

import (
	"math"
	"math/rand"
	"slices"
	"testing"

	"boarder/api"
)

func TestChooseExample(t *testing.T) { // P15.2: the chapter's example
	chooses(t, example(), nil, 0, "i01", 0, now, ten+5)
	chooses(t, example(), nil, 0, "i02", 0, now, ten+10)
	chooses(t, example(), nil, 0, "i02", ten+15, now, ten+15)
}

func TestChooseSources(t *testing.T) { // P15.2: each of the four sources alone, each two, three, and all of them
	const reservation, lease, wish, pool = 1, 2, 4, 8
	for mask := range 16 {
		c := wide()
		// What no source is to give is held by another client; its old lease and its wish are there or not.
		l, wanted := allBound("i08", ten+12, second+41, second+1), 0
		held := func(source, a int) {
			if mask&source == 0 {
				l = append(l, bound(a, "i08"))
			}
		}
		held(reservation, ten+5)
		held(pool, ten+20)
		held(wish, ten+10)
		if mask&lease == 0 {
			l = append(l, bound(ten+13, "i08"))
		} else {
			l = append(l, released(ten+13, "i01"))
		}
		if mask&wish != 0 {
			wanted = ten + 10
		}
		want := none
		switch {
		case mask&reservation != 0:
			want = ten + 5
		case mask&lease != 0:
			want = ten + 13
		case mask&wish != 0:
			want = ten + 10
		case mask&pool != 0:
			want = ten + 20
		}
		chooses(t, c, tableOf(l...), 0, "i01", wanted, now, want)
	}
}

func TestChooseReservation(t *testing.T) { // P15.2, P15.4: the client's own one, while it is free
	c := wide()
	for _, wish := range []int{0, ten + 12, ten + 11, other + 1} {
		l := tableOf(released(ten+13, "i01"), released(other+2, "i01"), released(ten+10, "i02"))
		chooses(t, c, l, 0, "i01", wish, now, ten+5)
		chooses(t, c, l, 1, "i01", wish, now, other+1)
		chooses(t, c, l, 0, "i02", wish, now, ten+11)
		chooses(t, c, l, 1, "i02", wish, now, other+9)
		chooses(t, c, l, 2, "i04", wish, now, lone+1)
	}
	// One that is held by another client, or quarantined, counts as none.
	for _, x := range []api.Lease{bound(ten+5, "i09"), declined(ten+5, "i09"), declined(ten+5, "i01")} {
		chooses(t, c, tableOf(x), 0, "i01", 0, later-1, ten+20)
		chooses(t, c, tableOf(x), 0, "i01", ten+12, later-1, ten+12)
		chooses(t, c, tableOf(x, released(ten+13, "i01")), 0, "i01", ten+12, later-1, ten+13)
		chooses(t, c, tableOf(x, released(ten+13, "i01")), 0, "i01", ten+12, later, ten+5)
		chooses(t, c, tableOf(x), 1, "i01", 0, now, other+1)
	}
	chooses(t, c, tableOf(bound(lone+1, "i09")), 2, "i04", lone+1, now, none)
	chooses(t, c, tableOf(ended(lone+1, "i09")), 2, "i04", 0, now, lone+1)
}

func TestChooseOwnActive(t *testing.T) { // P15.2, P15.5: the active lease, whatever else there is
	c := wide()
	for _, a := range inFirst(ten + 5) {
		l := tableOf(bound(a, "i01"))
		for _, wish := range []int{0, a, ten + 5, ten + 12, other + 1} {
			chooses(t, c, l, 0, "i01", wish, later-1, a)
			chooses(t, c, l, 1, "i01", wish, later-1, other+1)
		}
		chooses(t, c, l, 0, "i01", ten+12, later, ten+5)
	}
	l := tableOf(released(ten+10, "i01"), ended(ten+12, "i01"), bound(ten+13, "i01"), rested(ten+20, "i01"))
	chooses(t, c, l, 0, "i01", ten+12, now, ten+13)
	chooses(t, c, l, 0, "i01", ten+12, math.MaxInt, ten+5)
}

func TestChooseLostActive(t *testing.T) { // P15.2, P15.4: an active lease that may not be got any more leaves no choice
	c := wide()
	for _, a := range []int{ten, ten + 4, ten + 11, ten + 14, ten + 255, second + 40, second + 255} {
		for _, wish := range []int{0, a, ten + 5, ten + 12} {
			chooses(t, c, tableOf(bound(a, "i01")), 0, "i01", wish, later-1, none)
			chooses(t, c, tableOf(bound(a, "i01"), released(ten+13, "i01")), 0, "i01", wish, now, none)
			chooses(t, c, tableOf(bound(a, "i01")), 0, "i01", wish, later, ten+5)
		}
	}
	// In another network, or in none, it is in no way, and is not chosen.
	for _, a := range []int{ten - 1, other + 2, bare + 1, lone + 1, 77 << 24} {
		chooses(t, c, tableOf(bound(a, "i09")), 0, "i09", a, now, ten+20)
	}
}

func TestChooseTwoActive(t *testing.T) { // P15.2: of two active leases in a network neither may be got, for the other one's sake
	c := wide()
	for _, pair := range [][]int{{ten + 10, ten + 12}, {ten + 10, ten + 14}, {ten + 9, ten + 10}, {ten + 5, second + 1}, {ten + 4, ten + 14}} {
		l := tableOf(allBound("i01", pair...)...)
		chooses(t, c, l, 0, "i01", 0, now, none)
		chooses(t, c, l, 0, "i01", pair[1], now, none)
		chooses(t, c, l, 1, "i01", pair[1], now, other+1)
		chooses(t, c, l, 0, "i01", ten+20, later, ten+5)
	}
	// With one active lease in each of two networks, or an active and an old one, there is a choice.
	chooses(t, c, tableOf(bound(ten+13, "i01"), bound(other+2, "i01")), 0, "i01", 0, now, ten+13)
	chooses(t, c, tableOf(bound(ten+13, "i01"), bound(other+2, "i01")), 1, "i01", 0, now, other+2)
	chooses(t, c, tableOf(ended(ten+10, "i01"), bound(ten+12, "i01")), 0, "i01", 0, now, ten+12)
	chooses(t, c, tableOf(bound(ten+10, "i01"), ended(ten+12, "i01")), 0, "i01", 0, now, ten+10)
}

func TestChooseOtherLeases(t *testing.T) { // P15.2: old leases in the network, in the order of the table
	c := wide()
	for _, old := range []func(a int, k string) api.Lease{released, ended, rested} {
		chooses(t, c, tableOf(old(ten+13, "i09"), old(ten+12, "i09"), old(second+1, "i09")), 0, "i09", ten+10, now, ten+12)
		chooses(t, c, tableOf(old(second+41, "i09"), old(second+1, "i09")), 0, "i09", ten+10, now, second+1)
		// The first ones can't be got: out of pools, reserved, quarantined.
		for _, bad := range []api.Lease{old(ten+9, "i09"), old(ten+5, "i09"), old(ten+11, "i09"), declined(ten+10, "i09")} {
			chooses(t, c, tableOf(bad, old(ten+12, "i09"), old(ten+13, "i09")), 0, "i09", ten+20, now, ten+12)
			chooses(t, c, tableOf(bad), 0, "i09", second+1, now, second+1)
			chooses(t, c, tableOf(bad), 0, "i09", 0, now, ten+20)
		}
		// Leases of other clients, and of other networks, are none of them.
		chooses(t, c, tableOf(old(ten+10, "i08"), old(ten+12, "i092"), old(ten+13, "h09")), 0, "i09", 0, now, ten+20)
		chooses(t, c, tableOf(old(other+2, "i09"), old(1, "i09"), old(lone+1, "i09")), 0, "i09", 0, now, ten+20)
		chooses(t, c, tableOf(old(other+2, "i09"), old(second+1, "i09")), 0, "i09", 0, now, second+1)
	}
	chooses(t, c, tableOf(released(ten+10, "i09"), rested(ten+12, "i09"), ended(ten+13, "i09")), 0, "i09", 0, now, ten+10)
	chooses(t, c, tableOf(declined(ten+10, "i09"), declined(ten+12, "i09"), ended(ten+13, "i09")), 0, "i09", 0, now, ten+13)
}

func TestChooseWish(t *testing.T) { // P15.2, P15.4: the wish counts if it may be got
	c := wide()
	l := tableOf(bound(ten+12, "i08"), declined(ten+13, "i08"), released(second+41, "i08"))
	for _, wish := range []int{ten + 10, second + 1, second + 41, ten + 20} {
		chooses(t, c, l, 0, "i09", wish, now, wish)
	}
	for _, wish := range append(extremes(), ten+9, ten+14, ten+5, ten+11, ten+12, ten+13, second+40, other+2, lone+1, ten+255) {
		if !slices.Contains(inFirst(), wish) || wish == ten+12 || wish == ten+13 {
			chooses(t, c, l, 0, "i09", wish, now, ten+20)
		}
	}
	chooses(t, c, l, 0, "i03", ten+10, now, second+40)
	chooses(t, c, l, 0, "i09", ten+12, later, ten+12)
	chooses(t, c, l, 0, "i09", ten+13, later, ten+13)
}

func TestChoosePools(t *testing.T) { // P15.2, P15.3: subnet by subnet, pool by pool, from the first address on, till all are used up
	c := wide()
	for _, take := range []func(a int, k string) api.Lease{bound, declined} {
		var l []api.Lease
		for _, a := range []int{ten + 20, ten + 10, ten + 12, ten + 13, second + 41, second + 1} {
			chooses(t, c, tableOf(l...), 0, "i09", 0, now, a)
			chooses(t, c, tableOf(l...), 0, "i09", other+2, now, a)
			l = append(l, take(a, "i08"))
		}
		chooses(t, c, tableOf(l...), 0, "i09", 0, now, none)
		chooses(t, c, tableOf(l...), 0, "i09", ten+12, now, none)
		chooses(t, c, tableOf(l...), 0, "i02", 0, now, ten+11) // a pool's address that is reserved for the client
		chooses(t, c, tableOf(l...), 1, "i09", 0, now, other+2)
		chooses(t, c, tableOf(l...), 0, "i09", 0, later, ten+20)
	}
	chooses(t, c, nil, 1, "i01", other+2, now, other+1)
	chooses(t, c, nil, 1, "i09", other+1, now, other+2)
	chooses(t, c, tableOf(bound(other+2, "i08")), 1, "i09", 0, now, none)
	for _, k := range []string{"i01", "i09"} {
		chooses(t, c, nil, 2, k, lone+1, now, none)
	}
}

func TestChooseGreatPool(t *testing.T) { // P15.2, P15.3: as many leases as a table has, at the first addresses of a great pool
	c := wide()
	var l []api.Lease
	for a := 1; a <= api.MaxLeases; a++ {
		chooses(t, c, l, 3, "i09", 0, now, a)
		l = append(l, bound(a, "i08"))
	}
	chooses(t, c, l, 3, "i09", 0, now, api.MaxLeases+1)
	chooses(t, c, l, 3, "i09", 1<<24-2, now, 1<<24-2)
	chooses(t, c, l, 3, "i09", 1<<24-1, now, api.MaxLeases+1)
	chooses(t, c, l, 3, "i09", high+2, now, high+2)
	chooses(t, c, l, 3, "i09", api.MaxAddr, now, api.MaxLeases+1)
	chooses(t, c, l, 3, "i08", 0, now, none)
	l = l[1:]
	chooses(t, c, l, 3, "i09", 0, now, 1)
	l = append(l, bound(high+1, "i09"))
	chooses(t, c, l, 3, "i09", 0, now, high+1)
}

func TestChooseManyReservations(t *testing.T) { // P15.2, P15.4: pools of reserved addresses alone, as many as may be
	c := api.Config{Server: 1, Probation: 1, Nets: []api.Net{{}}}
	for i := range api.MaxSubnets {
		s := api.Subnet{Base: ten + 256*i, Bits: 24, Time: 1}
		s.Pools = []api.Range{{First: s.Base + 1, Last: s.Base + api.MaxRes}}
		for j := range api.MaxRes {
			s.Res = append(s.Res, api.Res{Key: string([]byte{'i', byte(i), byte(j)}), Addr: s.Base + 1 + j})
		}
		c.Nets[0].Subnets = append(c.Nets[0].Subnets, s)
	}
	chooses(t, c, nil, 0, "i09", ten+3, now, none)
	for i := range api.MaxSubnets {
		for j := range api.MaxRes {
			chooses(t, c, nil, 0, string([]byte{'i', byte(i), byte(j)}), ten+3, now, ten+256*i+1+j)
		}
	}
	c.Nets[0].Subnets[3].Pools[0].Last++
	chooses(t, c, nil, 0, "i09", ten+3, now, ten+256*3+api.MaxRes+1)
}

func TestChooseRefuses(t *testing.T) { // P15.2, P0: a configuration, a table, a key and a network that are wrong, each alone
	c := wide()
	for _, wish := range []int{0, ten + 10, math.MaxInt} {
		for _, w := range wrongConfigs() {
			chooses(t, w, nil, 0, "i01", wish, now, none)
		}
		for _, l := range wrongTables() {
			chooses(t, c, l, 0, "i01", wish, now, none)
		}
		for _, k := range wrongKeys() {
			chooses(t, c, nil, 0, k, wish, now, none)
		}
		for _, net := range []int{math.MinInt, -1 << 32, -4, -1, 4, 5, 256, 1 << 32, math.MaxInt} {
			chooses(t, c, nil, net, "i01", wish, now, none)
		}
		chooses(t, empty(), nil, 0, "i01", wish, now, none)
		chooses(t, example(), nil, 1, "i01", wish, now, none)
	}
	chooses(t, c, nil, 0, "i01", 0, now, ten+5)
}

func TestChooseExtremes(t *testing.T) { // P15.2, P0: any wish, network and moment
	c := wide()
	l := tableOf(bound(ten+10, "i01"), declined(high+1, "i01"), api.Lease{Addr: api.MaxAddr, State: api.Bound, Expiry: api.MaxTime, Key: "i02"}, api.Lease{Addr: 0, State: api.Bound, Key: "i02"})
	for _, net := range extremes() {
		for _, wish := range extremes() {
			for _, now := range extremes() {
				for _, k := range []string{"i01", "i02", "i"} {
					chooses(t, c, l, net, k, wish, now, handChoose(c, l, net, k, wish, now))
				}
			}
		}
	}
}

// from answers of which source a choice is, with one number for all that is of none.
func from(c api.Config, l []api.Lease, net int, k string, wish, now, a int) int {
	i := slices.IndexFunc(l, func(x api.Lease) bool { return x.Addr == a && x.Key == k })
	switch {
	case a == none:
		return 0
	case i >= 0 && l[i].State == api.Bound && now < l[i].Expiry:
		return 1
	case handReserved(c, net, a) == k:
		return 2
	case i >= 0:
		return 3
	case wish == a:
		return 4
	}
	return 5
}

func TestChooseRandom(t *testing.T) { // P15.2: against the chapter's words read a second time
	r := rand.New(rand.NewSource(152))
	counts := make([]int, 6)
	for range 40000 {
		c, l := randomConfig(r), randomTable(r)
		net, k, wish, now := r.Intn(3)-r.Intn(2), oneOf(r, someKeys()), randomSpot(r, c), now-2+r.Intn(5)
		want := handChoose(c, l, net, k, wish, now)
		chooses(t, c, l, net, k, wish, now, want)
		if handRight(c, l, net, k) {
			counts[from(c, l, net, k, wish, now, want)]++
		}
	}
	if slices.Min(counts) < 100 {
		t.Errorf("too few of a kind: %v", counts)
	}
}

func TestConsequences(t *testing.T) { // P15.3, P15.4, P15.5: of the calls alone, over all addresses of random networks
	r := rand.New(rand.NewSource(153))
	chosen, refused, kept := 0, 0, 0
	for range 15000 {
		c, l := randomConfig(r), randomTable(r)
		net, k, wish := r.Intn(2), oneOf(r, someKeys()), randomSpot(r, c)
		if !handRight(c, l, net, k) {
			continue
		}
		a, ok := Choose(c, l, net, k, wish, now)
		any := false
		for b := ten - 2; b < ten+70; b++ {
			any = any || May(c, l, net, k, b, now)
		}
		if any != ok || ok && !May(c, l, net, k, a, now) {
			t.Fatalf("any: %v, chosen: %d, %v: %s", any, a, ok, tell(c, l))
		}
		if !ok {
			refused++
			continue
		}
		chosen++
		own := false
		for _, x := range l {
			runs := x.Expiry > now
			if x.Addr == a && runs && (x.State == api.Declined || x.State == api.Bound && x.Key != k) {
				t.Fatalf("%d is not free: %s", a, tell(c, l))
			}
			if x.Key == k && x.State == api.Bound && runs && handIn(c, net, x.Addr) {
				own = true
				if x.Addr != a {
					t.Fatalf("%d, not the client's own %d: %s", a, x.Addr, tell(c, l))
				}
			}
		}
		if keeper := handReserved(c, net, a); keeper != "" && keeper != k {
			t.Fatalf("%d is reserved for %q: %s", a, keeper, tell(c, l))
		}
		if own {
			kept++
		}
	}
	if chosen < 500 || refused < 500 || kept < 50 {
		t.Errorf("only %d chosen, %d refused, %d kept", chosen, refused, kept)
	}
}
