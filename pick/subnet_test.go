package pick

import (
	"bytes"
	"math"
	"math/rand"
	"slices"
	"testing"

	"boarder/addr"
	"boarder/api"
	"boarder/msg"
)

// spoilt answers messages that are not valid, which say what another one says.
func spoilt(m msg.Msg) []msg.Msg {
	var all []msg.Msg
	add := func(f func(m *msg.Msg)) {
		w := m
		w.Opts = slices.Clone(m.Opts)
		f(&w)
		all = append(all, w)
	}
	for _, n := range []int{math.MinInt, -1, 1 << 32, math.MaxInt} {
		for _, p := range []func(m *msg.Msg) *int{
			func(m *msg.Msg) *int { return &m.Op }, func(m *msg.Msg) *int { return &m.Htype }, func(m *msg.Msg) *int { return &m.Hlen }, func(m *msg.Msg) *int { return &m.Hops },
			func(m *msg.Msg) *int { return &m.Xid }, func(m *msg.Msg) *int { return &m.Secs }, func(m *msg.Msg) *int { return &m.Flags }, func(m *msg.Msg) *int { return &m.Yi }, func(m *msg.Msg) *int { return &m.Si },
		} {
			add(func(m *msg.Msg) { *p(m) = n })
		}
	}
	add(func(m *msg.Msg) { m.Op = 256 })
	add(func(m *msg.Msg) { m.Hlen = 17 })
	add(func(m *msg.Msg) { m.Flags = 1 << 16 })
	for _, n := range []int{0, 1, 15, 17, 1 << 16} {
		add(func(m *msg.Msg) { m.Chaddr = make([]byte, n) })
	}
	for _, o := range []api.Opt{{Code: math.MinInt}, {Code: -1}, {Code: 0}, {Code: 255}, {Code: 256}, {Code: math.MaxInt}, {Code: 52}, {Code: 52, Data: []byte{1}}, {Code: 53, Data: []byte{1}}, {Code: 12, Data: make([]byte, 601)}} {
		add(func(m *msg.Msg) { m.Opts = append(m.Opts, o) })
		add(func(m *msg.Msg) { m.Opts = slices.Insert(m.Opts, 0, o) })
	}
	add(func(m *msg.Msg) {
		for code := range 61 {
			m.Opts = append(m.Opts, api.Opt{Code: 130 + code})
		}
	})
	return all
}

func TestSubnetExample(t *testing.T) { // P14.2: the chapter's example, whatever the interface
	m := blank()
	m.Gi = ten + 1
	for _, iface := range ifaces() {
		belongs(t, wide(), m, iface, spot{0, 0, true})
	}
}

func TestSubnetOrder(t *testing.T) { // P14.2, P14.3: of all that are present the first counts, and without any the interface
	for set := range 1 << 4 {
		for _, backward := range []bool{false, true} {
			m, first, ok := saying(set, backward)
			if !ok {
				first.at = atWire
			}
			belongs(t, wide(), m, ofWire, first.at)
		}
	}
}

func TestSubnetLink(t *testing.T) { // P14.3: the link takes precedence over everything else, found or not
	for _, link := range []struct {
		a    int
		want spot
	}{{ofLink, atLink}, {0, spot{3, 0, true}}, {1, spot{3, 0, true}}, {api.MaxAddr, atWire}, {99 << 24, spot{}}, {ten - 1, spot{}}, {api.MaxAddr - 4, spot{}}} {
		for set := range 1 << 4 {
			m, _, _ := saying(set&^1, false)
			for _, iface := range ifaces() {
				belongs(t, wide(), with(m, 82, selecting(link.a)...), iface, link.want)
			}
		}
	}
	m := with(blank(), 82, 5, 0)
	m.Gi = ofGi
	belongs(t, wide(), m, ofWire, atGi)
	m.Gi = 0
	belongs(t, wide(), m, ofWire, atWire)
}

func TestSubnetWire(t *testing.T) { // P14.2, P14.3: an interface that has a subnet, and one that has none
	for iface, want := range map[int]spot{1: {1, 1, true}, 3: {1, 0, true}, 7: {0, 0, true}, 9: atWire, 99: {3, 2, true}} {
		belongs(t, wide(), blank(), iface, want)
	}
	for _, iface := range ifaces() {
		if !slices.Contains([]int{1, 3, 7, 9, 99}, iface) {
			belongs(t, wide(), blank(), iface, spot{})
		}
	}
}

func TestSubnetNowhere(t *testing.T) { // P14.2: an address of no subnet, while the interface has one, and others say addresses that have
	for i, s := range sayers() {
		for _, a := range []int{ten - 1, ten + 512, ten + 1<<17, 11 << 24, 20<<24 - 1, 21 << 24, 1<<31 - 1, 1<<31 + 1<<23, 1 << 24, api.MaxAddr - 4} {
			for set := range 1 << 4 {
				m, _, _ := saying(set>>(i+1)<<(i+1), false)
				for _, iface := range []int{0, 1, 7, ofWire} {
					belongs(t, wide(), s.say(m, a), iface, spot{})
				}
			}
		}
	}
}

func TestSubnetEdges(t *testing.T) { // P14.2: the addresses at the edges of subnets, of those that touch too
	for a, want := range map[int]spot{
		ten: {0, 0, true}, ten + 127: {0, 0, true}, ten + 128: {0, 1, true}, ten + 255: {0, 1, true}, ten + 256: {1, 0, true}, ten + 511: {1, 0, true},
		ten + 1<<16: {1, 1, true}, ten + 1<<17 - 1: {1, 1, true}, 20 << 24: {2, 0, true}, 21<<24 - 1: {2, 0, true},
		1: {3, 0, true}, 1<<24 - 1: {3, 0, true}, api.MaxAddr - 3: {3, 1, true}, api.MaxAddr: {3, 1, true}, 1 << 31: {3, 2, true}, 1<<31 + 1<<23 - 1: {3, 2, true},
	} {
		for _, s := range sayers() {
			belongs(t, wide(), s.say(blank(), a), 7, want)
		}
	}
}

func TestSubnetZero(t *testing.T) { // P14.2: the number 0 is an address for a link alone
	for i, s := range sayers() {
		want := atWire
		if i == 0 {
			want = spot{3, 0, true}
		}
		belongs(t, wide(), s.say(blank(), 0), ofWire, want)
	}
}

func TestSubnetTwice(t *testing.T) { // P14.2: two options of a code are not valid, and two link selections in one are
	for _, s := range sayers() {
		for _, code := range []int{82, 118} {
			m := with(with(s.say(blank(), s.own), code, 1), code, 1)
			belongs(t, wide(), m, ofWire, spot{})
		}
	}
	belongs(t, wide(), with(blank(), 82, 5, 4, 10, 0, 0, 128, 5, 4, 20, 0, 0, 1), ofWire, atLink)
}

func TestSubnetWrongMessage(t *testing.T) { // P14.2: a message that is not valid belongs to none
	all := sayers()
	for i, m := range spoilt(blank()) {
		if n, s, ok := Subnet(wide(), m, ofWire); n != 0 || s != 0 || ok {
			t.Errorf("the wrong message %d: %d, %d, %v", i, n, s, ok)
		}
	}
	for _, s := range all {
		belongs(t, wide(), s.say(blank(), s.own), 1, s.at)
		for i, m := range spoilt(s.say(blank(), s.own)) {
			if n, sub, ok := Subnet(wide(), m, ofWire); n != 0 || sub != 0 || ok {
				t.Errorf("%s of the wrong message %d: %d, %d, %v", s.name, i, n, sub, ok)
			}
		}
	}
	for _, n := range []int{math.MinInt, -1 << 32, -1, 1 << 32, 1<<32 + ten, math.MaxInt} {
		for _, s := range []sayer{all[0], all[2]} { // their addresses would be found
			m := s.say(blank(), s.own)
			m.Ci = n
			belongs(t, wide(), m, ofWire, spot{})
			m.Ci, m.Gi = 0, n
			belongs(t, wide(), m, ofWire, spot{})
		}
	}
}

func TestSubnetWrongConfig(t *testing.T) { // P14.2: in a configuration that is not valid nothing is found, and in one of no networks neither
	for _, c := range append(wrongs(), empty()) {
		for set := range 1 << 4 {
			m, _, _ := saying(set, false)
			for _, iface := range ifaces() {
				belongs(t, c, m, iface, spot{})
			}
		}
	}
}

func TestSubnetData(t *testing.T) { // P14.2: data of all kinds in both options
	for _, b := range relayed() {
		for _, d := range subnetted() {
			m := with(with(blank(), 118, d...), 82, b...)
			for _, ci := range []int{0, ofCi} {
				m.Ci = ci
				for _, iface := range []int{0, 7, ofWire} {
					belongs(t, wide(), m, iface, handSubnet(wide(), m, iface))
				}
			}
		}
	}
}

func TestSubnetRandom(t *testing.T) { // P14.2, P14.4: a message that belongs to a subnet by an address has one that it contains
	r := rand.New(rand.NewSource(142))
	byAddress, byWire, none, wrong := 0, 0, 0, 0
	c := wide()
	for range 20000 {
		m, iface := randomMsg(r), oneOf(r, ifaces())
		n, s, ok := Subnet(c, m, iface)
		belongs(t, c, m, iface, handSubnet(c, m, iface))
		a, there := Place(m)
		switch {
		case !handRight(m):
			wrong++
		case !ok:
			none++
		case there:
			byAddress++
			if u := c.Nets[n].Subnets[s]; !addr.Has(u.Base, u.Bits, a) {
				t.Fatalf("%d is not in %+v: %s", a, u, tell(m))
			}
		default:
			byWire++
			if c.Nets[n].Subnets[s].Iface != iface {
				t.Fatalf("%d, %d is not on %d: %s", n, s, iface, tell(m))
			}
		}
	}
	if byAddress < 2000 || byWire < 500 || none < 1000 || wrong < 2000 {
		t.Errorf("too few of a kind: %d, %d, %d, %d", byAddress, byWire, none, wrong)
	}
}

func TestSubnetLong(t *testing.T) { // R1: calls end for long messages and configurations, too
	m := blank()
	m.Opts = slices.Repeat([]api.Opt{{Code: 118}}, 1<<20)
	places(t, m, 0, false)
	belongs(t, wide(), m, ofWire, spot{})
	m.Opts = []api.Opt{{Code: 82, Data: bytes.Repeat([]byte{5, 4, 10, 0, 0, 128}, 1<<18)}, {Code: 118, Data: make([]byte, 1<<20)}}
	m.Chaddr = make([]byte, 1<<20)
	places(t, m, 0, false)
	belongs(t, wide(), m, ofWire, spot{})
	long := wide()
	long.Nets = append(long.Nets, make([]api.Net, 1<<18)...)
	belongs(t, long, blank(), ofWire, spot{})
	m = blank()
	m.Gi = ofGi
	belongs(t, long, m, ofWire, spot{})
}
