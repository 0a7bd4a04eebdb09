package engine

import (
	"fmt"
	"math/rand"
	"slices"
	"testing"

	"boarder/api"
	"boarder/msg"
)

// roomy answers a copy of a list with spare capacity that is filled.
func roomy[T any](l []T, spare ...T) []T {
	return append(slices.Clone(l), spare...)[:len(l)]
}

// roomyScene answers a scene of its own memory, with spare capacity in which other subnets, pools, reservations and leases stand.
func roomyScene(s scene) scene {
	s.c.Nets = roomy(s.c.Nets, api.Net{Subnets: []api.Subnet{{Base: 99 << 24, Bits: 8, Iface: 7, Time: 1}}})
	for i, n := range s.c.Nets {
		n.Subnets = roomy(n.Subnets, api.Subnet{Base: 98 << 24, Bits: 8, Iface: 98, Time: 1})
		for j, u := range n.Subnets {
			n.Subnets[j].Pools = roomy(u.Pools, api.Range{First: u.Base + 1, Last: u.Base + 2})
			n.Subnets[j].Res = roomy(u.Res, api.Res{Key: "i02", Addr: u.Base + 3})
		}
		s.c.Nets[i] = n
	}
	s.t = roomy(s.t, bound(greatest, "i02"), declined(greatest, "i07"))
	return s
}

// roomyMsg answers a message of its own memory, with spare capacity in which other options and numbers stand.
func roomyMsg(m msg.Msg) msg.Msg {
	m.Chaddr = roomy(m.Chaddr, 1, 2, 3, 4)
	m.Opts = roomy(m.Opts, option(55, 3), option(61, 8, 8), wants(ten+12), names(own+1))
	for i, o := range m.Opts {
		m.Opts[i].Data = roomy(o.Data, 1, 3, 1, 3)
	}
	return m
}

// all answers a list with what stands in its spare capacity.
func all[T any](l []T) []T {
	return l[:cap(l)]
}

// dump answers all that a scene and a message have in memory, spare capacity among it.
func dump(s scene, m msg.Msg) string {
	x := fmt.Sprintf("%#v %#v %#v %#v %#v %#v", s, all(s.t), all(s.c.Nets), m, all(m.Chaddr), all(m.Opts))
	for _, n := range s.c.Nets {
		x += fmt.Sprintf("%#v", all(n.Subnets))
		for _, u := range n.Subnets {
			x += fmt.Sprintf("%#v %#v", all(u.Pools), all(u.Res))
		}
	}
	for _, o := range m.Opts {
		x += fmt.Sprintf("%#v", all(o.Data))
	}
	return x
}

// wipe writes over all memory of a message.
func wipe(m msg.Msg, b byte) {
	lists := [][]byte{m.Chaddr}
	for _, o := range m.Opts {
		lists = append(lists, o.Data)
	}
	for _, l := range lists {
		for i := range all(l) {
			all(l)[i] = b
		}
	}
	for i := range all(m.Opts) {
		all(m.Opts)[i] = option(int(b), b)
	}
}

func TestMemory(t *testing.T) { // P0, R3: what is handed in stays as it is, its spare capacity is none of it, and an answer shares none
	r := rand.New(rand.NewSource(195))
	configs, tables := wrongConfigs()[:25], wrongTables()
	for range 3000 {
		s, m := randomScene(r), randomMsg(r)
		switch r.Intn(12) {
		case 0:
			s.c = oneOf(r, configs)
		case 1:
			s.t = oneOf(r, tables)
		case 2:
			m = oneOf(r, wrongMsgs(m))
		}
		n, w := roomyMsg(m), roomyScene(s)
		before := dump(w, n)
		x, want := handle(w, n), text(handle(s, m))
		if text(x) != want {
			t.Fatalf("the spare capacity tells: %s, not %s: %s", text(x), want, tell(s, m))
		}
		if dump(w, n) != before {
			t.Fatalf("changed: %s", tell(s, m))
		}
		wipe(n, 85)
		if text(x) != want {
			t.Fatalf("the answer changes with the message: %s, not %s", text(x), want)
		}
		n = roomyMsg(m)
		x = handle(w, n)
		wipe(x.Reply, 170)
		if dump(w, n) != before {
			t.Fatalf("shared: %s", tell(s, m))
		}
		if again := text(handle(s, m)); again != want {
			t.Fatalf("retained: %s, not %s", again, want)
		}
	}
}

func TestOwnMemory(t *testing.T) { // R3: two answers share nothing, and neither has any of the configuration and the table
	for _, w := range wishes() {
		s, m := roomyScene(busy()), roomyMsg(w.m)
		x, y := handle(s, m), handle(s, m)
		want := text(x)
		wipe(y.Reply, 170)
		wipe(m, 85)
		s.t[0] = api.Lease{}
		s.c.Nets[0].Subnets[0] = api.Subnet{}
		if text(x) != want {
			t.Errorf("%s, not %s", text(x), want)
		}
	}
}

func TestNothingRetained(t *testing.T) { // P0, R3, R4: what was asked before has no effect, in the same memory either
	s, m := busy(), selects("i02", spot)
	grants(t, s, m, 0, 0, spot, "i02", now+600)
	grants(t, s, m, 0, 0, spot, "i02", now+600)
	s.t[0].Key = "i07"
	denies(t, s, m, 0, 0)
	m.Opts[1].Data[1] = '7'
	grants(t, s, m, 0, 0, spot, "i07", now+600)
	s.c.Nets[0].Subnets[0].Time = 7
	grants(t, s, m, 0, 0, spot, "i07", now+7)
	m.Opts[3].Data[3] = 12
	denies(t, s, m, 0, 0)
	s.t[0].State = 2
	grants(t, s, m, 0, 0, ten+12, "i07", now+7)
	m.Opts[0].Data[0] = 1
	offers(t, s, m, 0, 0, spot)
	s.c.Nets[0].Subnets[0].Pools[0].First = ten + 11
	offers(t, s, m, 0, 0, ten+12)
	s.c.Server = own + 1
	ignores(t, s, m)
	m.Opts[2].Data[3] = 2
	offers(t, s, m, 0, 0, ten+12)
	s.c.Nets[0], s.c.Nets[1] = s.c.Nets[1], s.c.Nets[0]
	offers(t, s, m, 1, 0, ten+12)
	s.iface = 2
	offers(t, s, m, 0, 0, other+10)
}

func TestNil(t *testing.T) { // R3: nil and empty lists are alike
	c, d := wide(), wide()
	for i := range d.Nets {
		for j, u := range d.Nets[i].Subnets {
			d.Nets[i].Subnets[j].Pools, d.Nets[i].Subnets[j].Res = append([]api.Range{}, u.Pools...), append([]api.Res{}, u.Res...)
		}
	}
	for _, w := range wishes() {
		m := with(w.m, api.Opt{Code: 82}, api.Opt{Code: 55})
		n := with(w.m, option(82, []byte{}...), api.Opt{Code: 55, Data: []byte{}})
		n.Opts[len(n.Opts)-2].Data = []byte{}
		if x, y := text(handle(scene{c, nil, 1, now}, m)), text(handle(scene{d, []api.Lease{}, 1, now}, n)); x != y {
			t.Errorf("%s, not %s", y, x)
		}
	}
	m := says("i02", 1)
	m.Opts = []api.Opt{}
	ignores(t, busy(), m)
	m.Opts = nil
	ignores(t, busy(), m)
	x := empty()
	x.Nets = []api.Net{}
	ignores(t, scene{x, nil, 1, now}, says("i02", 1))
}

func TestSame(t *testing.T) { // P0, R4: the same answer each time, whatever the order of a map
	r := rand.New(rand.NewSource(196))
	for range 300 {
		s, m := randomScene(r), randomMsg(r)
		want := text(handle(s, m))
		for range 10 {
			if got := text(handle(s, m)); got != want {
				t.Fatalf("%s, not %s: %s", got, want, tell(s, m))
			}
		}
	}
}
