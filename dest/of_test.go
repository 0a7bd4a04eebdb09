package dest

import (
	"math"
	"math/rand"
	"testing"

	"boarder/api"
	"boarder/msg"
	"boarder/opts"
)

func TestExample(t *testing.T) { // P17.1: the chapter's example
	goes(t, msg.Msg{}, opts.Offer, 10<<24+7, Dest{Addr: 10<<24 + 7, Port: 68, Raw: true})
	goes(t, msg.Msg{Flags: 32768}, opts.Offer, 10<<24+7, Dest{Addr: 4294967295, Port: 68})
}

func TestPorts(t *testing.T) { // the chapter's constants, and Dest as a value
	if Server != 67 || Client != 68 {
		t.Errorf("the ports are %d and %d", Server, Client)
	}
	if (Dest{1, 67, true}) != (Dest{Addr: 1, Port: 67, Raw: true}) {
		t.Error("the fields of Dest")
	}
}

func TestWays(t *testing.T) { // P17.1: all ways in which the cases' conditions hold or not
	for _, s := range samples() {
		goes(t, s.msg(), s.kind, given, s.want)
	}
}

func TestRelay(t *testing.T) { // P17.1, P17.2: a Gi, whatever else there is
	for _, gi := range numbers() {
		for _, ci := range and0() {
			for _, flags := range []int{0, 1, 32767, 32768, 65535, 65536, 98304, -1} {
				for _, kind := range append(otherKinds(), 6) {
					goes(t, from(gi, ci, flags), kind, given, toRelay(gi))
				}
			}
		}
		for _, yi := range and0() {
			goes(t, from(gi, 0, 0), opts.Offer, yi, toRelay(gi))
			goes(t, from(gi, held, 32768), opts.Nak, yi, toRelay(gi))
		}
	}
}

func TestNak(t *testing.T) { // P17.1: a Nak goes to everyone where there is no relay
	for _, ci := range and0() {
		for _, flags := range append(asking(), silent()...) {
			goes(t, from(0, ci, flags), opts.Nak, given, toEveryone())
		}
		for _, yi := range and0() {
			goes(t, from(0, ci, 0), opts.Nak, yi, toEveryone())
		}
	}
}

func TestClient(t *testing.T) { // P17.1: a client with an address is reached by it, whatever its flags are
	for _, ci := range numbers() {
		for _, kind := range otherKinds() {
			for _, flags := range append(asking(), silent()...) {
				goes(t, from(0, ci, flags), kind, given, toClient(ci))
			}
		}
		for _, yi := range and0() {
			goes(t, from(0, ci, 0), opts.Ack, yi, toClient(ci))
			goes(t, from(0, ci, 32768), opts.Ack, yi, toClient(ci))
		}
	}
}

func TestBroadcast(t *testing.T) { // P17.1: a client without an address that asks for broadcast
	for _, flags := range asking() {
		for _, kind := range otherKinds() {
			for _, yi := range and0() {
				goes(t, from(0, 0, flags), kind, yi, toEveryone())
			}
		}
	}
}

func TestRaw(t *testing.T) { // P17.1, P17.3: a client without an address that does not ask for broadcast
	for _, flags := range silent() {
		for _, kind := range otherKinds() {
			for _, yi := range and0() {
				goes(t, from(0, 0, flags), kind, yi, toHardware(yi))
			}
		}
	}
}

func TestFlags(t *testing.T) { // P17.1: all flags of 16 bits, and as many numbers on both sides
	for flags := -1 << 16; flags < 1<<17; flags++ {
		want := toHardware(given)
		if flags >= 32768 && flags <= 65535 {
			want = toEveryone()
		}
		goes(t, from(0, 0, flags), opts.Ack, given, want)
		goes(t, from(0, held, flags), opts.Ack, given, toClient(held))
	}
}

func TestKinds(t *testing.T) { // P17.1: of all types Nak alone matters
	for kind := -1 << 10; kind < 1<<10; kind++ {
		known, unknown := toClient(held), toHardware(given)
		if kind == 6 {
			known, unknown = toEveryone(), toEveryone()
		}
		goes(t, from(0, held, 0), kind, given, known)
		goes(t, from(0, 0, 0), kind, given, unknown)
		goes(t, from(0, 0, 32768), kind, given, toEveryone())
		goes(t, from(relayed, 0, 0), kind, given, toRelay(relayed))
	}
}

func TestBroadcastAddress(t *testing.T) { // P17.1: the greatest address where others stand for it: port and Raw stay those of their case
	goes(t, from(everyone, 0, 0), opts.Ack, given, Dest{everyone, 67, false})
	goes(t, from(0, everyone, 0), opts.Ack, given, Dest{everyone, 68, false})
	goes(t, from(0, 0, 0), opts.Ack, everyone, Dest{everyone, 68, true})
	goes(t, from(0, 0, 0), opts.Ack, 0, Dest{0, 68, true})
	goes(t, from(0, 0, 32768), opts.Ack, 0, Dest{everyone, 68, false})
}

func TestFields(t *testing.T) { // P17.1: the other fields have no effect
	for _, s := range samples() {
		for _, n := range and0() {
			m := s.msg()
			m.Op, m.Htype, m.Hlen, m.Hops, m.Xid, m.Secs, m.Yi, m.Si = n, n, n, n, n, n, n, n
			goes(t, m, s.kind, given, s.want)
		}
		for i := range 8 {
			for _, n := range []int{math.MinInt, -1, 0, 1, 2, 32768, other, everyone, everyone + 1, math.MaxInt} {
				m := s.msg()
				*[]*int{&m.Op, &m.Htype, &m.Hlen, &m.Hops, &m.Xid, &m.Secs, &m.Yi, &m.Si}[i] = n
				goes(t, m, s.kind, given, s.want)
			}
		}
		for _, n := range []int{0, 1, 6, 15, 16, 17, 300} {
			m := s.msg()
			m.Chaddr = make([]byte, n)
			for i := range m.Chaddr {
				m.Chaddr[i] = 255
			}
			goes(t, m, s.kind, given, s.want)
		}
	}
}

func TestOptions(t *testing.T) { // P17.1: options have no effect, the message's own type neither: the reply's counts
	for _, s := range samples() {
		for kind := range 20 {
			goes(t, with(s.msg(), 53, byte(kind)), s.kind, given, s.want)
		}
		for _, code := range []int{math.MinInt, -53, -1, 0, 1, 3, 50, 51, 52, 53, 54, 55, 61, 82, 118, 254, 255, 256, 256 + 53, 1<<32 + 53, math.MaxInt} {
			for _, data := range [][]byte{nil, {}, {0}, {6}, {128, 0}, four(other), {5, 4, 10, 0, 0, 3}, make([]byte, 700)} {
				goes(t, with(s.msg(), code, data...), s.kind, given, s.want)
				goes(t, with(with(s.msg(), 53, 6), code, data...), s.kind, given, s.want)
			}
		}
	}
}

func TestLong(t *testing.T) { // P0: far more options than a message may have
	for _, s := range samples() {
		m := s.msg()
		m.Opts = make([]api.Opt, 100000)
		goes(t, m, s.kind, given, s.want)
	}
}

func TestExtremes(t *testing.T) { // P0: the least and the greatest numbers, all together
	ends := []int{math.MinInt, -1, 0, 1, 6, 32767, 32768, 65535, 65536, api.MaxAddr, api.MaxAddr + 1, math.MaxInt}
	for _, gi := range ends {
		for _, ci := range ends {
			for _, flags := range ends {
				for _, kind := range ends {
					for _, yi := range ends {
						m := msg.Msg{Gi: gi, Ci: ci, Flags: flags}
						goes(t, m, kind, yi, hand(m, kind, yi))
					}
				}
			}
		}
	}
}

func TestRandom(t *testing.T) { // P17.1 to P17.3: any messages
	r := rand.New(rand.NewSource(171))
	relays, naks, clients, all, raws := 0, 0, 0, 0, 0
	for range 50000 {
		m, kind, yi := randomMsg(r), randomKind(r), oneOf(r, and0())
		goes(t, m, kind, yi, hand(m, kind, yi))
		d := Of(m, kind, yi)
		if m.Gi != 0 && (d.Addr != m.Gi || d.Port != 67) {
			t.Fatalf("not to the relay: %+v, %s", d, tell(m))
		}
		if d.Raw && (m.Gi != 0 || m.Ci != 0 || kind == 6 || m.Flags > 32767 && m.Flags < 65536) {
			t.Fatalf("Raw: type %d, %s", kind, tell(m))
		}
		switch {
		case m.Gi != 0:
			relays++
		case kind == 6:
			naks++
		case m.Ci != 0:
			clients++
		case d.Raw:
			raws++
		default:
			all++
		}
	}
	if relays < 5000 || naks < 5000 || clients < 5000 || all < 5000 || raws < 5000 {
		t.Errorf("too few of a kind: %d, %d, %d, %d, %d", relays, naks, clients, all, raws)
	}
}
