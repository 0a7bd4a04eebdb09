package reply

import (
	"fmt"
	"math/rand"
	"slices"
	"testing"

	"boarder/api"
	"boarder/msg"
	"boarder/opts"
)

// roomy answers a copy of a list with spare capacity that is filled.
func roomy[T any](l []T, spare ...T) []T {
	return append(slices.Clone(l), spare...)[:len(l)]
}

// roomyMsg answers a message of its own memory, with spare capacity in which other options and numbers stand.
func roomyMsg(m msg.Msg) msg.Msg {
	m.Chaddr = roomy(m.Chaddr, 1, 2, 3, 4)
	m.Opts = roomy(m.Opts, option(55, 3), option(61, 8, 8), option(82, 9, 0))
	for i, o := range m.Opts {
		m.Opts[i].Data = roomy(o.Data, 1, 3, 1, 3)
	}
	return m
}

// roomyConfig answers a configuration of its own memory, with spare capacity in which other subnets stand.
func roomyConfig(c api.Config) api.Config {
	c.Nets = roomy(c.Nets, api.Net{Subnets: []api.Subnet{{Base: 99 << 24, Bits: 8, Iface: 2, Time: 1}}})
	for i, n := range c.Nets {
		n.Subnets = roomy(n.Subnets, api.Subnet{Base: 98 << 24, Bits: 8, Iface: 98, Time: 1})
		for j, s := range n.Subnets {
			n.Subnets[j].Pools = roomy(s.Pools, api.Range{First: 1, Last: 2})
			n.Subnets[j].Res = roomy(s.Res, api.Res{Key: "ispare", Addr: 1})
		}
		c.Nets[i] = n
	}
	return c
}

// all answers a list with what stands in its spare capacity.
func all[T any](l []T) []T {
	return l[:cap(l)]
}

// dump answers all that a message has in memory, spare capacity among it.
func dump(m msg.Msg) string {
	s := fmt.Sprintf("%#v %#v %#v %d", m, all(m.Chaddr), all(m.Opts), len(m.Opts))
	for _, o := range m.Opts {
		s += fmt.Sprintf("%#v", all(o.Data))
	}
	return s
}

// dumpConfig answers all that a configuration has in memory, spare capacity among it.
func dumpConfig(c api.Config) string {
	s := fmt.Sprintf("%#v %#v", c, all(c.Nets))
	for _, n := range c.Nets {
		s += fmt.Sprintf("%#v", all(n.Subnets))
		for _, u := range n.Subnets {
			s += fmt.Sprintf("%#v %#v", all(u.Pools), all(u.Res))
		}
	}
	return s
}

// fill writes a byte over all lists of bytes of a message, spare capacity among them.
func fill(m msg.Msg, b byte) {
	lists := [][]byte{m.Chaddr}
	for _, o := range m.Opts {
		lists = append(lists, o.Data)
	}
	for _, l := range lists {
		for i := range all(l) {
			all(l)[i] = b
		}
	}
}

// wipe writes over all memory of a message.
func wipe(m msg.Msg, b byte) {
	fill(m, b)
	for i := range all(m.Opts) {
		all(m.Opts)[i] = option(int(b), b)
	}
}

func TestMemory(t *testing.T) { // P0, R3: messages and configurations stay as they are, their spare capacity is none of them, and an answer shares none
	r := rand.New(rand.NewSource(185))
	wrong, messages := wrongConfigs()[:23], wrongMsgs()[:40]
	for range 3000 {
		p, m, kind, yi := oneOf(r, places()), randomMsg(r), oneOf(r, append(replyKinds(), replyKinds()...)), oneOf(r, addrs())
		switch r.Intn(10) {
		case 0:
			p.c = oneOf(r, wrong)
		case 1:
			m = oneOf(r, messages)
		}
		n, c := roomyMsg(m), roomyConfig(p.c)
		before, beforeC := dump(n), dumpConfig(c)
		x, e := Make(c, p.net, p.sub, n, kind, yi)
		want, wantE := Make(p.c, p.net, p.sub, m, kind, yi)
		if text(x) != text(want) || e != wantE || Asked(n, 3) != Asked(m, 3) {
			t.Fatalf("the spare capacity tells: %s, not %s: of %s", tell(x), tell(want), tell(m))
		}
		if dump(n) != before || dumpConfig(c) != beforeC {
			t.Fatalf("changed: %s", tell(m))
		}
		wipe(x, 170)
		if dump(n) != before || dumpConfig(c) != beforeC {
			t.Fatalf("shared: %s", tell(m))
		}
		wipe(n, 85)
		if again, e := Make(p.c, p.net, p.sub, m, kind, yi); text(again) != text(want) || e != wantE {
			t.Fatalf("retained: %s, not %s", tell(again), tell(want))
		}
	}
}

func TestOwnMemory(t *testing.T) { // R3: an answer stays as it is when the message changes, and when another answer does
	for _, kind := range replyKinds() {
		m, p := roomyMsg(full()), first()
		x, y := made(t, p, m, kind, given), made(t, p, m, kind, given)
		want := text(x)
		wipe(m, 85)
		p.c.Nets[0].Subnets[0] = api.Subnet{}
		wipe(y, 170)
		if text(x) != want {
			t.Errorf("type %d: %s, not %s", kind, text(x), want)
		}
	}
}

func TestApart(t *testing.T) { // LANGUAGE 7: no two lists of one answer share memory, spare capacity among it
	for _, kind := range replyKinds() {
		for _, m := range []msg.Msg{full(), plain(), with(with(plain(), 61), 82), with(with(plain(), 82, make([]byte, 600)...), 61, make([]byte, 600)...)} {
			x := made(t, first(), m, kind, given)
			for i := range x.Opts {
				fill(x, 0)
				for k := range all(x.Opts[i].Data) {
					all(x.Opts[i].Data)[k] = 1
				}
				for j, o := range x.Opts {
					if j != i && slices.Contains(all(o.Data), 1) {
						t.Errorf("type %d: the options %d and %d share memory", kind, i, j)
					}
				}
				if slices.Contains(all(x.Chaddr), 1) {
					t.Errorf("type %d: the option %d and Chaddr share memory", kind, i)
				}
			}
		}
	}
}

func TestNothingRetained(t *testing.T) { // P0, R4: what was asked before has no effect, in the same memory either
	m, p := full(), first()
	agrees(t, p, m, opts.Offer, given)
	m.Opts[2].Data[0], m.Chaddr[0], m.Opts[4].Data[2] = 99, 98, 97
	agrees(t, p, m, opts.Offer, given)
	agrees(t, p, m, opts.Nak, given)
	m.Opts[1].Code = 55 // the option 12 is Params now
	agrees(t, p, m, opts.Ack, given)
	p.c.Nets[0].Subnets[0].Time, p.c.Server = 7, ten+2
	agrees(t, p, m, opts.Ack, given)
	p.c.Server = -1
	refuses(t, p, m, opts.Ack, given)
	p.c.Server = own
	m.Chaddr = m.Chaddr[:15]
	refuses(t, p, m, opts.Ack, given)
	m.Chaddr = m.Chaddr[:16]
	agrees(t, p, m, opts.Ack, given)
}

func TestNil(t *testing.T) { // R3: nil and empty lists are alike
	for _, kind := range replyKinds() {
		m, n := plain(), plain()
		n.Opts = []api.Opt{}
		makes(t, first(), n, kind, given, made(t, first(), m, kind, given), api.OK)
		for _, code := range []int{55, 61, 82} {
			m.Opts, n.Opts = []api.Opt{{Code: code}}, []api.Opt{{Code: code, Data: []byte{}}}
			makes(t, first(), n, kind, given, made(t, first(), m, kind, given), api.OK)
			if Asked(m, 3) != Asked(n, 3) {
				t.Errorf("the option %d without data", code)
			}
		}
		p, q := place{empty(), 0, 0}, place{empty(), 0, 0}
		q.c.Nets = []api.Net{}
		refuses(t, p, full(), kind, given)
		refuses(t, q, full(), kind, given)
	}
	for _, p := range []place{first(), {wide(), 3, 1}} { // pools and reservations that are not there
		q := place{roomyConfig(p.c), p.net, p.sub}
		q.c.Nets[p.net].Subnets[p.sub].Pools, q.c.Nets[p.net].Subnets[p.sub].Res = []api.Range{}, []api.Res{}
		agrees(t, q, full(), opts.Ack, given)
		q.c.Nets[p.net].Subnets[p.sub].Pools, q.c.Nets[p.net].Subnets[p.sub].Res = nil, nil
		agrees(t, q, full(), opts.Ack, given)
	}
}

func TestZeroWithError(t *testing.T) { // R2: with an error there is nothing else
	x, e := Make(api.Config{}, 0, 0, full(), opts.Ack, given)
	y, f := Make(single(), 0, 0, full(), opts.Discover, given)
	for _, z := range []msg.Msg{x, y} {
		if len(z.Chaddr) != 0 || len(z.Opts) != 0 || text(z) != text(msg.Msg{}) {
			t.Errorf("not nothing: %s", tell(z))
		}
	}
	if e != api.ErrArg || f != api.ErrArg {
		t.Errorf("errors %d and %d", e, f)
	}
}
