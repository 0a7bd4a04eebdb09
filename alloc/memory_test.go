package alloc

import (
	"fmt"
	"math/rand"
	"slices"
	"testing"

	"boarder/api"
)

// roomy answers a copy of a list with spare capacity that is filled.
func roomy[T any](l []T, spare ...T) []T {
	return append(slices.Clone(l), spare...)[:len(l)]
}

// roomyConfig answers a configuration of its own memory, with spare capacity in which other networks, subnets, pools and reservations stand.
func roomyConfig(c api.Config) api.Config {
	c.Nets = roomy(c.Nets, api.Net{Subnets: []api.Subnet{{Base: 99 << 24, Bits: 8, Time: 1}}})
	for i, n := range c.Nets {
		n.Subnets = roomy(n.Subnets, api.Subnet{Base: 98 << 24, Bits: 8, Time: 1})
		for j, s := range n.Subnets {
			n.Subnets[j].Pools = roomy(s.Pools, api.Range{First: s.Base + 1, Last: s.Base + 2})
			n.Subnets[j].Res = roomy(s.Res, api.Res{Key: "i03", Addr: s.Base + 1})
		}
		c.Nets[i] = n
	}
	return c
}

// roomyTable answers a table of its own memory, with spare capacity in which further leases stand.
func roomyTable(l []api.Lease) []api.Lease {
	return roomy(l, bound(ten+100, "i01"), declined(ten+101, "i02"))
}

// all answers a list with what stands in its spare capacity.
func all[T any](l []T) []T {
	return l[:cap(l)]
}

// dump answers all that a configuration and a table have in memory, spare capacity among it.
func dump(c api.Config, l []api.Lease) string {
	s := fmt.Sprintf("%#v %d %#v %#v", all(l), len(l), c, all(c.Nets))
	for _, n := range c.Nets {
		s += fmt.Sprintf("%#v", all(n.Subnets))
		for _, u := range n.Subnets {
			s += fmt.Sprintf("%#v %#v", all(u.Pools), all(u.Res))
		}
	}
	return s
}

// answers has what both calls say of all networks, and of several clients and addresses.
func answers(c api.Config, l []api.Lease) string {
	s := ""
	for net := -1; net <= 4; net++ {
		for _, k := range append(someKeys(), "i") {
			for _, a := range []int{0, ten + 1, ten + 5, ten + 12, ten + 17, ten + 40} {
				b, ok := Choose(c, l, net, k, a, now)
				s += fmt.Sprintln(May(c, l, net, k, a, now), b, ok)
			}
		}
	}
	return s
}

func TestMemory(t *testing.T) { // P0, R3: configurations and tables stay as they are, and their spare capacity is none of them
	r := rand.New(rand.NewSource(154))
	for range 300 {
		c, l := randomConfig(r), randomTable(r)
		if r.Intn(3) == 0 {
			c = oneOf(r, append(wrongConfigs()[:12], wide(), example(), empty()))
		}
		if r.Intn(8) == 0 {
			l = slices.Clone(oneOf(r, wrongTables()))
		}
		d, m := roomyConfig(c), roomyTable(l)
		before := dump(d, m)
		if got, want := answers(d, m), answers(c, l); got != want {
			t.Fatalf("the spare capacity tells: %s, not %s: %s", got, want, tell(c, l))
		}
		if dump(d, m) != before {
			t.Fatalf("changed: %s", tell(c, l))
		}
	}
}

func TestNothingRetained(t *testing.T) { // P0, R3, R4: what was asked before has no effect, in the same memory either
	c, l := wide(), tableOf(bound(ten+12, "i01"), released(ten+13, "i02"))
	chooses(t, c, l, 0, "i01", 0, now, ten+12)
	l[0].Key, l[1].Key = "i02", "i01"
	chooses(t, c, l, 0, "i01", 0, now, ten+5)
	c.Nets[0].Subnets[0].Res[0].Key = "i09"
	chooses(t, c, l, 0, "i01", 0, now, ten+13)
	mays(t, c, l, 0, "i01", ten+5, now, false)
	mays(t, c, l, 0, "i09", ten+5, now, true)
	l[1].State = api.Declined
	chooses(t, c, l, 0, "i01", 0, now, ten+20)
	c.Nets[0].Subnets[0].Pools[0] = api.Range{First: ten + 30, Last: ten + 31}
	chooses(t, c, l, 0, "i01", 0, now, ten+30)
	c.Nets[0], c.Nets[1] = c.Nets[1], c.Nets[0]
	chooses(t, c, l, 0, "i01", 0, now, other+1)
	chooses(t, c, l, 1, "i01", 0, now, ten+30)
	c.Server = -1
	chooses(t, c, l, 1, "i01", 0, now, none)
	c.Server, l[0].Addr = 50<<24, ten+13
	chooses(t, c, l, 1, "i01", 0, now, none)
	l[0].Addr = ten + 12
	chooses(t, c, l, 1, "i01", 0, now, ten+30)
}

func TestNil(t *testing.T) { // R3: nil and empty lists are alike
	c, d := wide(), wide()
	for i := range d.Nets {
		for j := range d.Nets[i].Subnets {
			s := &d.Nets[i].Subnets[j]
			s.Pools, s.Res = append([]api.Range{}, s.Pools...), append([]api.Res{}, s.Res...)
		}
	}
	if got, want := answers(d, []api.Lease{}), answers(c, nil); got != want {
		t.Errorf("empty lists: %s, not %s", got, want)
	}
	c.Nets[0].Subnets, d.Nets[0].Subnets = nil, []api.Subnet{}
	if got, want := answers(d, []api.Lease{}), answers(c, nil); got != want {
		t.Errorf("no subnets: %s, not %s", got, want)
	}
	c, d = empty(), empty()
	d.Nets = []api.Net{}
	if got, want := answers(d, []api.Lease{}), answers(c, nil); got != want {
		t.Errorf("no networks: %s, not %s", got, want)
	}
}
