package reply

import (
	"math"
	"math/rand"
	"testing"

	"boarder/api"
	"boarder/msg"
	"boarder/opts"
)

func TestExample(t *testing.T) { // P18.2: the chapter's example
	x := made(t, first(), with(plain(), 55, 3), opts.Offer, given)
	has(t, x, option(53, 2), option(54, 10, 0, 0, 1), option(51, 0, 0, 2, 88), option(3, 10, 0, 0, 1))
	if x.Yi != 10<<24+10 {
		t.Errorf("Yi is %d", x.Yi)
	}
}

func TestHeader(t *testing.T) { // P18.2: each field of a reply, written out
	chaddr := []byte{2, 0, 0, 0, 0, 7, 11, 12, 13, 14, 15, 16, 17, 18, 19, 20}
	back := []api.Opt{option(61, 1, 2, 3), option(82, 1, 1, 7)}
	lent := append([]api.Opt{option(51, 0, 0, 2, 88), option(1, 255, 255, 255, 0), option(3, 10, 0, 0, 1)}, back...)
	named := func(kind byte, l []api.Opt) []api.Opt {
		return append([]api.Opt{option(53, kind), option(54, 10, 0, 0, 1)}, l...)
	}
	offer := msg.Msg{Op: 2, Htype: 1, Hlen: 6, Xid: 77, Flags: 4096, Yi: given, Gi: relayed, Chaddr: chaddr, Opts: named(2, lent)}
	makes(t, first(), full(), opts.Offer, given, offer, api.OK)
	ack := msg.Msg{Op: 2, Htype: 1, Hlen: 6, Xid: 77, Flags: 4096, Ci: held, Yi: given, Gi: relayed, Chaddr: chaddr, Opts: named(5, lent)}
	makes(t, first(), full(), opts.Ack, given, ack, api.OK)
	nak := msg.Msg{Op: 2, Htype: 1, Hlen: 6, Xid: 77, Flags: 4096 + 32768, Gi: relayed, Chaddr: chaddr, Opts: named(6, back)}
	makes(t, first(), full(), opts.Nak, given, nak, api.OK)
}

func TestFields(t *testing.T) { // P18.2, P18.4: the edges of each number of the header: what is returned, and what is not
	for _, kind := range replyKinds() {
		for i, limit := range []int{255, 255, 16, 255, greatest, 65535, 65535, greatest, greatest, greatest, greatest} {
			for _, v := range []int{0, 1, limit / 2, limit/2 + 1, limit - 1, limit} {
				for _, m := range []msg.Msg{plain(), full()} {
					*fields(&m)[i] = v
					agrees(t, first(), m, kind, given)
					x := made(t, first(), m, kind, given)
					if x.Op != 2 || x.Htype != m.Htype || x.Hlen != m.Hlen || x.Hops != 0 || x.Xid != m.Xid || x.Secs != 0 || x.Si != 0 || x.Gi != m.Gi {
						t.Errorf("type %d, field %d is %d: %s", kind, i, v, tell(x))
					}
				}
			}
		}
	}
}

func TestChaddr(t *testing.T) { // P18.2, P18.4: all 16 bytes, whatever Hlen is
	for _, kind := range replyKinds() {
		for hlen := range 17 {
			m := full()
			m.Hlen = hlen
			x := made(t, first(), m, kind, given)
			if x.Hlen != hlen || string(x.Chaddr) != string(plain().Chaddr) {
				t.Errorf("type %d: %s", kind, tell(x))
			}
		}
	}
}

func TestFlags(t *testing.T) { // P18.2: the highest bit is added to a Nak that a relay gets
	for _, s := range []struct{ was, nak int }{{0, 32768}, {1, 32769}, {4096, 36864}, {32767, 65535}, {32768, 32768}, {32769, 32769}, {65535, 65535}} {
		for _, kind := range replyKinds() {
			for _, gi := range []int{0, 1, relayed, greatest} {
				want := s.was
				if kind == opts.Nak && gi != 0 {
					want = s.nak
				}
				for _, m := range []msg.Msg{plain(), full()} {
					m.Flags, m.Gi = s.was, gi
					if x := made(t, first(), m, kind, given); x.Flags != want || x.Gi != gi {
						t.Errorf("type %d, Gi %d, flags %d: Gi %d, flags %d", kind, gi, s.was, x.Gi, x.Flags)
					}
				}
			}
		}
	}
}

func TestCi(t *testing.T) { // P18.2: an Ack alone tells the address that the client has
	for _, ci := range addrs() {
		for _, yi := range addrs() {
			m := full()
			m.Ci = ci
			for kind, want := range map[int]int{opts.Offer: 0, opts.Ack: ci, opts.Nak: 0} {
				if x := made(t, first(), m, kind, yi); x.Ci != want {
					t.Errorf("type %d, yi %d: Ci is %d, not %d", kind, yi, x.Ci, want)
				}
			}
		}
	}
}

func TestYi(t *testing.T) { // P18.2, P18.5: the address that is told, and the time with it
	for _, yi := range addrs() {
		for _, m := range []msg.Msg{plain(), full(), with(plain(), 55), with(plain(), 55, 51), with(plain(), 51, 0, 0, 0, 9)} {
			for kind, want := range map[int]int{opts.Offer: yi, opts.Ack: yi, opts.Nak: 0} {
				x := made(t, first(), m, kind, yi)
				n, timed := opts.Number(x.Opts, opts.Time)
				if x.Yi != want || timed != (want != 0) || timed && n != 600 {
					t.Errorf("type %d, yi %d: Yi is %d, the time %d, %v", kind, yi, x.Yi, n, timed)
				}
			}
		}
	}
}

func TestWrong(t *testing.T) { // P18.2: each reason for ErrArg alone
	for _, kind := range replyKinds() {
		for _, c := range wrongConfigs() {
			refuses(t, place{c, 0, 0}, full(), kind, given)
		}
		for _, p := range noPlaces() {
			refuses(t, p, full(), kind, given)
		}
		for _, m := range wrongMsgs() {
			refuses(t, first(), m, kind, given)
		}
		for _, yi := range noAddrs() {
			refuses(t, first(), full(), kind, yi)
		}
	}
	for _, kind := range otherKinds() {
		refuses(t, first(), full(), kind, given)
		refuses(t, first(), full(), kind, 0)
	}
	for kind := -300; kind < 600; kind++ {
		agrees(t, first(), full(), kind, given)
	}
}

func TestWrongTogether(t *testing.T) { // P18.2: any of the reasons at once, and none of them
	r := rand.New(rand.NewSource(181))
	configs, none, messages := wrongConfigs(), noPlaces(), wrongMsgs()
	for reasons := range 32 {
		for range 40 {
			p, m, kind, yi := oneOf(r, places()), full(), oneOf(r, replyKinds()), oneOf(r, addrs())
			if reasons&1 != 0 {
				p = oneOf(r, none)
			}
			if reasons&2 != 0 {
				p.c = oneOf(r, configs)
			}
			if reasons&4 != 0 {
				m = oneOf(r, messages)
			}
			if reasons&8 != 0 {
				kind = oneOf(r, otherKinds())
			}
			if reasons&16 != 0 {
				yi = oneOf(r, noAddrs())
			}
			if reasons != 0 {
				refuses(t, p, m, kind, yi)
				continue
			}
			agrees(t, p, m, kind, yi)
		}
	}
}

func TestExtremes(t *testing.T) { // P0: the least and the greatest numbers, all together
	ends := []int{math.MinInt, -1, 0, 1, 4, math.MaxInt}
	for _, net := range ends {
		for _, sub := range ends {
			for _, kind := range append(ends, 2, 5, 6) {
				for _, yi := range append(ends, greatest, greatest+1) {
					for _, c := range []api.Config{wide(), empty(), {}} {
						agrees(t, place{c, net, sub}, full(), kind, yi)
						agrees(t, place{c, net, sub}, msg.Msg{}, kind, yi)
					}
				}
			}
		}
	}
}

func TestRandom(t *testing.T) { // P18.1 to P18.5: any messages, for any subnets
	r := rand.New(rand.NewSource(182))
	all := places()
	for range 20000 {
		p, m, kind, yi := oneOf(r, all), randomMsg(r), oneOf(r, replyKinds()), oneOf(r, append(addrs(), int(r.Uint32())))
		agrees(t, p, m, kind, yi)
		x := made(t, p, m, kind, yi)
		if !msg.Right(x) || x.Xid != m.Xid || string(x.Chaddr) != string(m.Chaddr) {
			t.Fatalf("%s, of %s", tell(x), tell(m))
		}
		if _, timed := opts.Number(x.Opts, opts.Time); (kind == opts.Nak && x.Yi != 0) || timed && x.Yi == 0 {
			t.Fatalf("an address or a time: %s", tell(x))
		}
		if t.Failed() {
			return
		}
	}
}
