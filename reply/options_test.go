package reply

import (
	"bytes"
	"math/rand"
	"slices"
	"testing"

	"boarder/api"
	"boarder/msg"
	"boarder/opts"
	"boarder/tlv"
)

func TestParams(t *testing.T) { // P18.2: Mask and Router, if they are asked for and the subnet has them
	mask, router := option(1, 255, 255, 255, 0), option(3, 10, 0, 0, 1)
	routerless := first()
	routerless.c.Nets[0].Subnets[0].Router = 0
	for _, s := range []struct {
		m            msg.Msg
		mask, router bool
	}{
		{plain(), true, true},
		{with(plain(), 55), false, false},
		{with(plain(), 55, 1), true, false},
		{with(plain(), 55, 3), false, true},
		{with(plain(), 55, 1, 3), true, true},
		{with(plain(), 55, 3, 1), true, true},
		{with(plain(), 55, 3, 1, 1, 3), true, true},
		{with(plain(), 55, 6, 15, 51, 53, 54, 61, 82), false, false},
		{with(plain(), 55, 0, 2, 4, 129, 131, 255), false, false},
		{with(plain(), 55, 6, 3, 15), false, true},
		{with(with(plain(), 1, 3), 55, 9), false, false},
		{with(with(with(plain(), 3, 9, 9, 9, 9), 1, 9), 55, 1, 3), true, true},
	} {
		for _, kind := range []int{opts.Offer, opts.Ack} {
			for _, yi := range []int{0, given} {
				want := []api.Opt{option(53, byte(kind)), option(54, 10, 0, 0, 1)}
				if yi != 0 {
					want = append(want, option(51, 0, 0, 2, 88))
				}
				if s.mask {
					want = append(want, mask)
				}
				has(t, made(t, routerless, s.m, kind, yi), want...)
				if s.router {
					want = append(want, router)
				}
				has(t, made(t, first(), s.m, kind, yi), want...)
			}
		}
		for _, p := range []place{first(), routerless} {
			has(t, made(t, p, s.m, opts.Nak, given), option(53, 6), option(54, 10, 0, 0, 1))
		}
	}
}

func TestSubnets(t *testing.T) { // P18.2: the time, the mask and the router of the subnet with these indices, whatever the address is
	all := places()
	for i, s := range []struct {
		time, mask []byte
		router     []byte // nil: none
	}{
		{[]byte{0, 0, 2, 88}, []byte{255, 255, 255, 0}, []byte{10, 0, 0, 1}},
		{[]byte{0, 0, 2, 89}, []byte{255, 255, 255, 0}, nil},
		{[]byte{0, 0, 0, 1}, []byte{255, 255, 0, 0}, []byte{10, 1, 0, 7}},
		{[]byte{0, 1, 0, 0}, []byte{255, 255, 128, 0}, []byte{10, 2, 0, 0}},
		{[]byte{0, 0, 0, 255}, []byte{255, 0, 0, 0}, []byte{0, 0, 0, 1}},
		{[]byte{0, 0, 1, 0}, []byte{255, 128, 0, 0}, nil},
		{[]byte{128, 0, 0, 0}, []byte{255, 255, 255, 252}, []byte{255, 255, 255, 255}},
		{[]byte{127, 255, 255, 255}, []byte{255, 255, 255, 248}, []byte{128, 0, 0, 6}},
		{[]byte{1, 0, 0, 1}, []byte{255, 255, 254, 0}, nil},
		{[]byte{0, 0, 0, 77}, []byte{255, 192, 0, 0}, []byte{40, 0, 0, 1}},
	} {
		for _, kind := range []int{opts.Offer, opts.Ack} {
			for _, yi := range addrs()[1:] {
				want := []api.Opt{option(53, byte(kind)), option(54, 10, 0, 0, 1), option(51, s.time...), option(1, s.mask...)}
				if s.router != nil {
					want = append(want, option(3, s.router...))
				}
				has(t, made(t, all[i], plain(), kind, yi), want...)
			}
		}
		has(t, made(t, all[i], plain(), opts.Nak, given), option(53, 6), option(54, 10, 0, 0, 1))
	}
}

func TestAllSubnets(t *testing.T) { // P18.2: every number of bits, and the edges of a lease time
	for bits := 8; bits <= 30; bits++ {
		for _, time := range []int{1, 255, 256, 65535, 65536, 1<<24 - 1, 1 << 24, 1<<31 - 1, 1 << 31} {
			p := first()
			p.c.Nets[0].Subnets[0] = api.Subnet{Base: ten, Bits: bits, Time: time}
			x := made(t, p, plain(), opts.Ack, given)
			mask, _ := opts.Number(x.Opts, opts.Mask)
			if n, _ := opts.Number(x.Opts, opts.Time); n != time || mask != 1<<32-1<<(32-bits) {
				t.Errorf("%d bits, time %d: mask %d, time %d", bits, time, mask, n)
			}
			agrees(t, p, full(), opts.Offer, given)
		}
	}
}

func TestServer(t *testing.T) { // P18.2: the Server of the configuration, not the one that the message names
	for _, server := range []int{0, 1, 255, 256, own, 99<<24 + 7, greatest - 1, greatest} {
		p := first()
		p.c.Server = server
		for _, kind := range replyKinds() {
			for _, m := range []msg.Msg{plain(), with(plain(), 54, 9, 9, 9, 9), with(plain(), 55, 1)} {
				x := made(t, p, m, kind, given)
				if len(x.Opts) < 2 || text(msg.Msg{Opts: x.Opts[:2]}) != text(msg.Msg{Opts: []api.Opt{option(53, byte(kind)), option(54, four(server)...)}}) {
					t.Errorf("type %d, server %d: %v", kind, server, x.Opts)
				}
			}
		}
	}
}

// lengths answers data of many lengths, the empty ones and the longest ones among them.
func lengths() [][]byte {
	all := [][]byte{nil, {}}
	for _, n := range []int{1, 2, 3, 4, 16, 254, 255, 256, 509, 510, 511, 599, 600} {
		b := make([]byte, n)
		for i := range b {
			b[i] = byte(i + n)
		}
		all = append(all, b)
	}
	return all
}

func TestBack(t *testing.T) { // P18.2, P18.4: Client and the option 82 come back, in this order
	for _, kind := range replyKinds() {
		start := made(t, first(), plain(), kind, given).Opts
		for _, x := range lengths() {
			client, agent := option(61, x...), option(82, x...)
			has(t, made(t, first(), with(plain(), 61, x...), kind, given), append(slices.Clone(start), client)...)
			has(t, made(t, first(), with(plain(), 82, x...), kind, given), append(slices.Clone(start), agent)...)
			for _, y := range lengths() {
				client := option(61, y...)
				both := append(slices.Clone(start), client, agent)
				has(t, made(t, first(), with(with(plain(), 61, y...), 82, x...), kind, given), both...)
				has(t, made(t, first(), with(with(plain(), 82, x...), 61, y...), kind, given), both...)
			}
		}
	}
}

func TestOrder(t *testing.T) { // P18.2: whatever the order of the message's options, and no others of them
	l := []api.Opt{option(61, 1, 2, 3), option(82, 1, 1, 7), option(55, 3, 1), option(1, 9, 9, 9, 9), option(3, 8, 8, 8, 8), option(51, 7, 7, 7, 7), option(53, 3), option(54, 6, 6, 6, 6), option(50, 5, 5, 5, 5), option(118, 10, 0, 0, 1), option(12, 'h'), option(254, 1), option(60), option(83, 1), option(62, 1)}
	r := rand.New(rand.NewSource(183))
	for range 2000 {
		m := plain()
		for _, i := range r.Perm(len(l)) {
			m.Opts = append(m.Opts, l[i])
		}
		has(t, made(t, first(), m, opts.Offer, given), option(53, 2), option(54, 10, 0, 0, 1), option(51, 0, 0, 2, 88), option(1, 255, 255, 255, 0), option(3, 10, 0, 0, 1), option(61, 1, 2, 3), option(82, 1, 1, 7))
		has(t, made(t, first(), m, opts.Ack, 0), option(53, 5), option(54, 10, 0, 0, 1), option(1, 255, 255, 255, 0), option(3, 10, 0, 0, 1), option(61, 1, 2, 3), option(82, 1, 1, 7))
		has(t, made(t, first(), m, opts.Nak, given), option(53, 6), option(54, 10, 0, 0, 1), option(61, 1, 2, 3), option(82, 1, 1, 7))
	}
}

func TestOthers(t *testing.T) { // P18.2: no other option of the message comes into the reply
	for code := 1; code <= 254; code++ {
		if code == 52 || code == 55 || code == 61 || code == 82 {
			continue
		}
		for _, kind := range replyKinds() {
			for _, data := range [][]byte{nil, {9}, four(relayed), bytes.Repeat([]byte{byte(code)}, 600)} {
				want := made(t, first(), full(), kind, given)
				m := full()
				m.Opts = slices.DeleteFunc(m.Opts, func(o api.Opt) bool { return o.Code == code })
				makes(t, first(), with(m, code, data...), kind, given, want, api.OK)
			}
		}
	}
}

func TestCrowd(t *testing.T) { // P18.2, P18.3: as many options as a message may have
	m := plain()
	for code := 101; len(m.Opts) < 58; code++ {
		m = with(m, code, 1, 2)
	}
	m = with(with(m, 82, 5), 61, 6, 7)
	if len(m.Opts) != api.MaxOpts || !msg.Right(m) {
		t.Fatalf("%d options", len(m.Opts))
	}
	has(t, made(t, first(), m, opts.Nak, 0), option(53, 6), option(54, 10, 0, 0, 1), option(61, 6, 7), option(82, 5))
	if x := made(t, first(), m, opts.Ack, given); len(x.Opts) != 7 {
		t.Errorf("%d options", len(x.Opts))
	}
}

// reads: a reply is valid, can be written, and is read again.
func reads(t *testing.T, x msg.Msg) []byte {
	t.Helper()
	b, e := msg.Write(x)
	if !msg.Right(x) || e != api.OK {
		t.Fatalf("error %d: %s", e, tell(x))
	}
	again, e := msg.Read(b)
	if e != api.OK || text(again) != text(x) {
		t.Fatalf("error %d: %s, read as %s", e, tell(x), tell(again))
	}
	return b
}

func TestWritten(t *testing.T) { // P18.3: a reply is written and read again, those with the longest options too
	for _, kind := range replyKinds() {
		for _, yi := range addrs() {
			for _, p := range places() {
				for _, m := range []msg.Msg{plain(), full(), with(plain(), 55), with(full(), 55, 1, 3)} {
					reads(t, made(t, p, m, kind, yi))
				}
			}
		}
		for _, x := range lengths() {
			for _, y := range lengths() {
				reads(t, made(t, first(), with(with(bare(), 61, x...), 82, y...), kind, given))
			}
		}
	}
	long := make([]byte, 600)
	b := reads(t, made(t, first(), with(with(plain(), 61, long...), 82, long...), opts.Ack, given))
	if len(b) != 1480 { // 240, 3 and 6 and 6 and 6 and 6, two times 606, 1
		t.Errorf("%d bytes", len(b))
	}
	unwritable := with(with(with(plain(), 61, long...), 82, long...), 12, long...)
	if _, e := msg.Write(unwritable); e != api.ErrFull {
		t.Errorf("error %d: the message is short enough", e)
	}
	reads(t, made(t, first(), unwritable, opts.Ack, given))
}

// bare answers a message with all numbers, but without options.
func bare() msg.Msg {
	m := full()
	m.Opts = nil
	return m
}

func TestWrittenRandom(t *testing.T) { // P18.3, P18.4
	r := rand.New(rand.NewSource(184))
	all := places()
	for range 5000 {
		m := randomMsg(r)
		x := made(t, oneOf(r, all), m, oneOf(r, replyKinds()), oneOf(r, addrs()))
		reads(t, x)
		for _, code := range []int{61, 82} {
			was, had := tlv.Find(m.Opts, code)
			if is, ok := tlv.Find(x.Opts, code); ok != had || !bytes.Equal(is, was) {
				t.Fatalf("the option %d: %s, of %s", code, tell(x), tell(m))
			}
		}
	}
}
