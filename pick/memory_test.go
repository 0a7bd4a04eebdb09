package pick

import (
	"fmt"
	"math/rand"
	"slices"
	"testing"

	"boarder/api"
	"boarder/msg"
)

// roomy answers a copy of a list with spare capacity that is filled.
func roomy[T any](l []T, spare ...T) []T {
	return append(slices.Clone(l), spare...)[:len(l)]
}

// roomyMsg answers a message of its own memory, with spare capacity in which another place stands.
func roomyMsg(m msg.Msg) msg.Msg {
	m.Chaddr = roomy(m.Chaddr, 1, 2, 3, 4)
	m.Opts = roomy(m.Opts, api.Opt{Code: 82, Data: selecting(ofCi)}, api.Opt{Code: 118, Data: four(ofCi)})
	for i, o := range m.Opts {
		m.Opts[i].Data = roomy(o.Data, 5, 4, 10, 1, 0, 9)
	}
	return m
}

// roomyConfig answers a configuration of its own memory, with spare capacity in which other subnets stand.
func roomyConfig(c api.Config) api.Config {
	c.Nets = roomy(c.Nets, api.Net{Subnets: []api.Subnet{{Base: 99 << 24, Bits: 8, Iface: 2, Time: 1}}})
	for i, n := range c.Nets {
		n.Subnets = roomy(n.Subnets, api.Subnet{Base: 98 << 24, Bits: 8, Iface: 98, Time: 1})
		for j, s := range n.Subnets {
			n.Subnets[j].Pools = roomy(s.Pools, api.Range{First: 1, Last: 2})
			n.Subnets[j].Res = roomy(s.Res, api.Res{Key: "ispare", Addr: 1})
		}
		c.Nets[i] = n
	}
	return c
}

// all answers a list with what stands in its spare capacity.
func all[T any](l []T) []T {
	return l[:cap(l)]
}

// dump answers all that a message and a configuration have in memory, spare capacity among it.
func dump(m msg.Msg, c api.Config) string {
	s := fmt.Sprintf("%#v %#v %#v %d", m, all(m.Chaddr), all(m.Opts), len(m.Opts))
	for _, o := range m.Opts {
		s += fmt.Sprintf("%#v", all(o.Data))
	}
	s += fmt.Sprintf("%#v %#v", c, all(c.Nets))
	for _, n := range c.Nets {
		s += fmt.Sprintf("%#v", all(n.Subnets))
		for _, u := range n.Subnets {
			s += fmt.Sprintf("%#v %#v", all(u.Pools), all(u.Res))
		}
	}
	return s
}

// answers has what both calls say.
func answers(m msg.Msg, c api.Config) string {
	a, ok := Place(m)
	s := fmt.Sprintln(a, ok)
	for _, iface := range ifaces() {
		n, sub, ok := Subnet(c, m, iface)
		s += fmt.Sprintln(n, sub, ok)
	}
	return s
}

func TestMemory(t *testing.T) { // P0, R3: messages and configurations stay as they are, and their spare capacity is none of them
	r := rand.New(rand.NewSource(140))
	configs := append(wrongs()[:9], wide(), wide(), wide(), empty())
	for range 3000 {
		m, c := randomMsg(r), oneOf(r, configs)
		n, d := roomyMsg(m), roomyConfig(c)
		before := dump(n, d)
		if got, want := answers(n, d), answers(m, c); got != want {
			t.Fatalf("the spare capacity tells: %s, not %s: %s", got, want, tell(m))
		}
		if dump(n, d) != before {
			t.Fatalf("changed: %s", tell(m))
		}
	}
}

func TestNothingRetained(t *testing.T) { // P0, R3, R4: what was asked before has no effect, in the same memory either
	m, c := with(blank(), 82, selecting(ofLink)...), wide()
	belongs(t, c, m, ofWire, atLink)
	copy(m.Opts[1].Data, selecting(ofSubnet))
	places(t, m, ofSubnet, true)
	belongs(t, c, m, ofWire, atSubnet)
	c.Nets[1], c.Nets[2] = c.Nets[2], c.Nets[1]
	belongs(t, c, m, ofWire, spot{2, 1, true})
	m.Opts[1].Data[3] = 9 // the link selection is another sub-option now
	places(t, m, 0, false)
	belongs(t, c, m, ofWire, atWire)
	m.Opts[1].Data[3] = 5
	c.Server = -1
	belongs(t, c, m, ofWire, spot{})
	c.Server = 1
	belongs(t, c, m, ofWire, spot{2, 1, true})
}

func TestNil(t *testing.T) { // R3: nil and empty lists are alike
	m, c := blank(), wide()
	m.Opts = nil
	n := m
	n.Opts = []api.Opt{}
	if got, want := answers(n, c), answers(m, c); got != want {
		t.Errorf("no options: %s, not %s", got, want)
	}
	for _, code := range []int{82, 118} {
		m.Opts, n.Opts = []api.Opt{{Code: code}}, []api.Opt{{Code: code, Data: []byte{}}}
		if got, want := answers(n, c), answers(m, c); got != want {
			t.Errorf("no data: %s, not %s", got, want)
		}
	}
	d := empty()
	d.Nets = []api.Net{}
	if got, want := answers(m, d), answers(m, empty()); got != want {
		t.Errorf("no networks: %s, not %s", got, want)
	}
}
