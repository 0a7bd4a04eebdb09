package alloc

import (
	"cmp"
	"fmt"
	"math"
	"math/rand"
	"slices"
	"strings"
	"testing"

	"boarder/api"
	"boarder/conf"
	"boarder/key"
	"boarder/table"
)

// ten is the address 10.0.0.0, and the others are bases of further subnets of wide().
const (
	ten    = 10 << 24
	second = ten + 256
	other  = ten + 1<<16
	bare   = 20 << 24
	lone   = 30 << 24
	high   = api.MaxAddr - 3
)

// now is the moment of most tests: leases of theirs have ended just now, or are to end at later.
const (
	now   = 50
	later = 100
)

// none is instead of a choice where there is to be none.
const none = -1

// example answers the configuration of chapter 13.
func example() api.Config {
	s := api.Subnet{Base: ten, Bits: 24, Pools: []api.Range{{First: ten + 10, Last: ten + 20}}, Res: []api.Res{{Key: "i01", Addr: ten + 5}}, Time: 600}
	return api.Config{Server: ten + 1, Probation: 300, Nets: []api.Net{{Subnets: []api.Subnet{s}}}}
}

// wide answers a configuration of four networks: pools are in no order, one has one address, reservations lie in them and outside, two subnets have no pool, and a pool has nearly all of a great subnet.
func wide() api.Config {
	return api.Config{Server: 50 << 24, Probation: 300, Nets: []api.Net{
		{Subnets: []api.Subnet{
			{Base: ten, Bits: 24, Pools: []api.Range{{First: ten + 20, Last: ten + 20}, {First: ten + 10, Last: ten + 13}}, Res: []api.Res{{Key: "i01", Addr: ten + 5}, {Key: "i02", Addr: ten + 11}}, Iface: 1, Time: 600},
			{Base: second, Bits: 24, Pools: []api.Range{{First: second + 40, Last: second + 41}, {First: second + 1, Last: second + 1}}, Res: []api.Res{{Key: "i03", Addr: second + 40}}, Iface: 1, Time: 600},
		}},
		{Subnets: []api.Subnet{
			{Base: other, Bits: 16, Pools: []api.Range{{First: other + 1, Last: other + 2}}, Res: []api.Res{{Key: "i01", Addr: other + 1}, {Key: "i02", Addr: other + 9}}, Iface: 2, Time: 1},
		}},
		{Subnets: []api.Subnet{
			{Base: bare, Bits: 8, Time: 1},
			{Base: lone, Bits: 8, Res: []api.Res{{Key: "i04", Addr: lone + 1}}, Time: 1},
		}},
		{Subnets: []api.Subnet{
			{Base: 0, Bits: 8, Pools: []api.Range{{First: 1, Last: 1<<24 - 2}}, Time: 1},
			{Base: high, Bits: 30, Pools: []api.Range{{First: high + 1, Last: high + 2}}, Time: 1},
		}},
	}}
}

// empty answers a configuration of no networks.
func empty() api.Config {
	return api.Config{Server: 1, Probation: 1}
}

// wrongConfigs answers configurations that are not valid, in which addresses would be got if they were.
func wrongConfigs() []api.Config {
	var all []api.Config
	for _, spoil := range []func(c *api.Config){
		func(c *api.Config) { c.Server = -1 },
		func(c *api.Config) { c.Server = ten + 12 },
		func(c *api.Config) { c.Probation = 0 },
		func(c *api.Config) { c.Nets = append(c.Nets, api.Net{}) },
		func(c *api.Config) { c.Nets[1].Subnets = nil },
		func(c *api.Config) { c.Nets[0].Subnets = nil },
		func(c *api.Config) { c.Nets[3].Subnets[0].Time = 0 },
		func(c *api.Config) { c.Nets[1].Subnets[0].Iface = 1 },
		func(c *api.Config) { c.Nets[0].Subnets[0].Bits = 23 },
		func(c *api.Config) { c.Nets[2].Subnets[1].Res[0].Key = "i" },
		func(c *api.Config) { c.Nets[2].Subnets[1].Res[0].Addr = lone },
		func(c *api.Config) { c.Nets[0].Subnets[1].Pools[1].First = 0 },
	} {
		c := wide()
		spoil(&c)
		all = append(all, c)
	}
	return append(all, api.Config{}, api.Config{Nets: make([]api.Net, 1000)})
}

// wrongTables answers lists that are no tables.
func wrongTables() [][]api.Lease {
	a, b := bound(ten+10, "i01"), bound(ten+12, "i02")
	tooMany := make([]api.Lease, api.MaxLeases+1)
	for i := range tooMany {
		tooMany[i] = released(1+i, "i08")
	}
	return [][]api.Lease{
		{b, a}, {a, a}, {a, released(a.Addr, "i01")}, {a, b, a}, tooMany, {{}}, {a, {}}, make([]api.Lease, 1000),
		{a, {Addr: b.Addr, State: 0, Expiry: 1, Key: "i01"}}, {a, {Addr: b.Addr, State: 4, Expiry: 1, Key: "i01"}},
		{a, {Addr: b.Addr, State: 1, Expiry: -1, Key: "i01"}}, {a, {Addr: b.Addr, State: 1, Expiry: api.MaxTime + 1, Key: "i01"}},
		{{Addr: -1, State: 1, Expiry: 1, Key: "i01"}, a}, {a, {Addr: api.MaxAddr + 1, State: 1, Expiry: 1, Key: "i01"}},
		{a, {Addr: b.Addr, State: 1, Expiry: 1, Key: ""}}, {a, {Addr: b.Addr, State: 1, Expiry: 1, Key: "i0"}},
	}
}

// wrongKeys answers texts that are no keys.
func wrongKeys() []string {
	return []string{"", "i", "h", "i0", "h0", "x01", "01", "I01", " i01", "\x0001", "i" + strings.Repeat("0", 256), "h" + strings.Repeat("0", 18), strings.Repeat("i", 1000)}
}

// bound answers a lease that is active at now.
func bound(a int, k string) api.Lease {
	return api.Lease{Addr: a, State: api.Bound, Expiry: later, Key: k}
}

// ended answers a lease that is not active any more, just at now.
func ended(a int, k string) api.Lease {
	return api.Lease{Addr: a, State: api.Bound, Expiry: now, Key: k}
}

// released answers a lease that was given back.
func released(a int, k string) api.Lease {
	return api.Lease{Addr: a, State: api.Released, Expiry: later, Key: k}
}

// declined answers a lease of an address that is quarantined at now.
func declined(a int, k string) api.Lease {
	return api.Lease{Addr: a, State: api.Declined, Expiry: later, Key: k}
}

// rested answers a lease of an address that is not quarantined any more, just at now.
func rested(a int, k string) api.Lease {
	return api.Lease{Addr: a, State: api.Declined, Expiry: now, Key: k}
}

// tableOf answers a table of leases of different addresses.
func tableOf(leases ...api.Lease) []api.Lease {
	l := slices.Clone(leases)
	slices.SortFunc(l, func(x, y api.Lease) int { return cmp.Compare(x.Addr, y.Addr) })
	return l
}

// allBound answers leases of addresses, all of which a client holds.
func allBound(k string, addresses ...int) []api.Lease {
	var all []api.Lease
	for _, a := range addresses {
		all = append(all, bound(a, k))
	}
	return all
}

// handIn: is an address in a network?
func handIn(c api.Config, net, a int) bool {
	return slices.ContainsFunc(c.Nets[net].Subnets, func(s api.Subnet) bool { return a >= s.Base && a < s.Base+1<<(32-s.Bits) })
}

// handReserved answers for whom an address is reserved in a network, or the empty key.
func handReserved(c api.Config, net, a int) string {
	for _, s := range c.Nets[net].Subnets {
		for _, r := range s.Res {
			if r.Addr == a {
				return r.Key
			}
		}
	}
	return ""
}

// handPooled: is an address in a pool of a network?
func handPooled(c api.Config, net, a int) bool {
	for _, s := range c.Nets[net].Subnets {
		for _, p := range s.Pools {
			if a >= p.First && a <= p.Last {
				return true
			}
		}
	}
	return false
}

// handRight: is there something that may be got?
func handRight(c api.Config, t []api.Lease, net int, k string) bool {
	return conf.Check(c) == api.OK && table.Right(t) && key.Right(k) && net >= 0 && net < len(c.Nets)
}

// handMay answers what P15.1 says.
func handMay(c api.Config, t []api.Lease, net int, k string, a, now int) bool {
	if !handRight(c, t, net, k) {
		return false
	}
	// In a valid configuration only this network has a reservation of an address of its own.
	keeper := handReserved(c, net, a)
	if keeper != k && (keeper != "" || !handPooled(c, net, a)) {
		return false
	}
	for _, l := range t {
		runs, here, own := now < l.Expiry, l.Addr == a, l.Key == k
		quarantined := here && l.State == 3 && runs
		foreign := here && !own && l.State == 1 && runs
		another := !here && own && l.State == 1 && runs && handIn(c, net, l.Addr)
		if quarantined || foreign || another {
			return false
		}
	}
	return true
}

// handTried answers the addresses among which the choice is, for a configuration, table and network that are right, in their order, and the greatest pools not to their ends.
func handTried(c api.Config, t []api.Lease, net int, k string, want, now int) []int {
	var active, inactive, reserved, pools []int
	for _, l := range t {
		runs, mine := now < l.Expiry, l.Key == k && handIn(c, net, l.Addr)
		if mine && l.State == 1 && runs {
			active = append(active, l.Addr)
		}
		if mine && (l.State != 1 || !runs) {
			inactive = append(inactive, l.Addr)
		}
	}
	for _, s := range c.Nets[net].Subnets {
		for _, r := range s.Res {
			if r.Key == k {
				reserved = append(reserved, r.Addr)
			}
		}
		for _, p := range s.Pools {
			for a := p.First; a <= min(p.Last, p.First+300); a++ {
				pools = append(pools, a)
			}
		}
	}
	if len(active) > 0 {
		return active
	}
	return slices.Concat(reserved, inactive, []int{want}, pools)
}

// handChoose answers what P15.2 says, or none.
func handChoose(c api.Config, t []api.Lease, net int, k string, want, now int) int {
	if !handRight(c, t, net, k) {
		return none
	}
	for _, a := range handTried(c, t, net, k, want, now) {
		if handMay(c, t, net, k, a, now) {
			return a
		}
	}
	return none
}

// extremes answers numbers that are no addresses, networks or points in time, and the edges of those that are.
func extremes() []int {
	return []int{math.MinInt, math.MinInt + 1, -1 << 50, -1 << 32, -1<<32 + ten + 10, -ten - 10, -2, -1, 0, 1, 2, 4, 5, now, ten, ten + 10, 1<<31 - 1, 1 << 31, high, high + 1, high + 2, api.MaxAddr, api.MaxAddr + 1, 1<<32 + ten + 10, api.MaxTime, api.MaxTime + 1, math.MaxInt - 1, math.MaxInt}
}

// spots answers all addresses at which something stands in wide(), and those around them.
func spots() []int {
	var all []int
	for _, base := range []int{0, ten, second, other, bare, lone, high} {
		for i := range 45 {
			all = append(all, base+i)
		}
	}
	return append(all, 1<<24-3, 1<<24-2, 1<<24-1, 1<<24, other+1<<16-1, -1, -ten, 1<<32+ten+10, math.MinInt, math.MaxInt)
}

// randomConfig answers a configuration of small subnets among few addresses, so that it is often valid.
func randomConfig(r *rand.Rand) api.Config {
	c := api.Config{Server: 1, Probation: 1 + r.Intn(9)}
	place := r.Perm(4)
	for range 1 + r.Intn(2) {
		var n api.Net
		for range 1 + r.Intn(2) {
			n.Subnets = append(n.Subnets, randomSubnet(r, ten+16*place[0]))
			place = place[1:]
		}
		c.Nets = append(c.Nets, n)
	}
	return c
}

// randomSubnet answers a small subnet at a base.
func randomSubnet(r *rand.Rand, base int) api.Subnet {
	s := api.Subnet{Base: base, Bits: 28 + r.Intn(2), Time: 1 + r.Intn(9)}
	size := 1 << (32 - s.Bits)
	for range r.Intn(3) {
		first := 1 + r.Intn(size-2)
		s.Pools = append(s.Pools, api.Range{First: base + first, Last: base + min(first+r.Intn(5), size-2)})
	}
	for range r.Intn(3) {
		s.Res = append(s.Res, api.Res{Key: oneOf(r, someKeys()), Addr: base + 1 + r.Intn(size-2)})
	}
	return s
}

// someKeys answers the keys of the clients of random tests.
func someKeys() []string {
	return []string{"i01", "i02", "hab", "i03"}
}

// randomTable answers a table of leases of any kind, in and around a random configuration's subnets.
func randomTable(r *rand.Rand) []api.Lease {
	var all []api.Lease
	many := oneOf(r, []int{0, 1, 2, 5, 10, 20, 39})
	for a := ten - 2; a < ten+66; a++ {
		if r.Intn(40) < many {
			all = append(all, api.Lease{Addr: a, State: 1 + r.Intn(3), Expiry: now - 1 + r.Intn(4), Key: oneOf(r, someKeys())})
		}
	}
	return all[:min(len(all), api.MaxLeases)]
}

// randomSpot answers an address in a pool or reserved in a configuration, or any one around.
func randomSpot(r *rand.Rand, c api.Config) int {
	all := []int{ten - 2 + r.Intn(70)}
	for _, n := range c.Nets {
		for _, s := range n.Subnets {
			for _, p := range s.Pools {
				all = append(all, p.First+r.Intn(p.Last-p.First+1))
			}
			for _, x := range s.Res {
				all = append(all, x.Addr)
			}
		}
	}
	return oneOf(r, all)
}

// oneOf answers any element of a list.
func oneOf[T any](r *rand.Rand, l []T) T {
	return l[r.Intn(len(l))]
}

// tell answers a configuration and a table in a few words.
func tell(c api.Config, l []api.Lease) string {
	return fmt.Sprintf("%.900s of %.700s", fmt.Sprintf("%+v", l), fmt.Sprintf("%+v", c))
}

// mays holds May against what it has to answer.
func mays(t *testing.T, c api.Config, l []api.Lease, net int, k string, a, now int, want bool) {
	t.Helper()
	if got := May(c, l, net, k, a, now); got != want {
		t.Errorf("May %.20q get %d in the network %d at %d: %v: %s", k, a, net, now, got, tell(c, l))
	}
}

// gets holds May against just the addresses that it has to allow at now, of all spots.
func gets(t *testing.T, c api.Config, l []api.Lease, net int, k string, want ...int) {
	t.Helper()
	var got []int
	for _, a := range spots() {
		if May(c, l, net, k, a, now) {
			got = append(got, a)
		}
	}
	slices.Sort(got)
	slices.Sort(want)
	if !slices.Equal(slices.Compact(got), want) {
		t.Errorf("%.20q may get %v in the network %d, not %v: %s", k, got, net, want, tell(c, l))
	}
}

// chooses holds Choose against the address that it has to answer, or none.
func chooses(t *testing.T, c api.Config, l []api.Lease, net int, k string, wish, now, want int) {
	t.Helper()
	a, ok := Choose(c, l, net, k, wish, now)
	if want == none && (a != 0 || ok) || want != none && (a != want || !ok) {
		t.Errorf("Choose for %.20q in the network %d with %d at %d: %d, %v, not %d: %s", k, net, wish, now, a, ok, want, tell(c, l))
	}
}

func TestFixtures(t *testing.T) { // what the other tests lean on
	for _, c := range []api.Config{example(), wide(), empty()} {
		if conf.Check(c) != api.OK {
			t.Errorf("not valid: %+v", c)
		}
	}
	for i, c := range wrongConfigs() {
		if conf.Check(c) == api.OK {
			t.Errorf("configuration %d is valid", i)
		}
	}
	for i, l := range wrongTables() {
		if table.Right(l) {
			t.Errorf("table %d is right", i)
		}
	}
	for _, k := range wrongKeys() {
		if key.Right(k) {
			t.Errorf("%.20q is a key", k)
		}
	}
}
