package pick

import (
	"bytes"
	"fmt"
	"math"
	"math/rand"
	"slices"
	"testing"

	"boarder/api"
	"boarder/conf"
	"boarder/msg"
	"boarder/relay"
)

// ten is the address 10.0.0.0.
const ten = 10 << 24

// Addresses of four subnets of wide(), one for each alternative, and an interface of a fifth one.
const (
	ofLink   = ten + 128
	ofGi     = ten + 256
	ofSubnet = ten + 1<<16 + 9
	ofCi     = 20<<24 + 1<<24 - 1
	ofWire   = 9
)

// spot is what Subnet answers.
type spot struct {
	net, sub int
	ok       bool
}

// Where these five are.
var (
	atLink   = spot{0, 1, true}
	atGi     = spot{1, 0, true}
	atSubnet = spot{1, 1, true}
	atCi     = spot{2, 0, true}
	atWire   = spot{3, 1, true}
)

// wide answers a configuration of four networks: the least and the greatest address are in it, two pairs of its subnets touch, two of one interface among them, and one pair is of two networks.
func wide() api.Config {
	return api.Config{Server: ten + 1, Probation: 300, Nets: []api.Net{
		{Subnets: []api.Subnet{
			{Base: ten, Bits: 25, Pools: []api.Range{{First: ten + 10, Last: ten + 20}}, Res: []api.Res{{Key: "i01", Addr: ten + 5}}, Iface: 7, Router: ten + 1, Time: 600},
			{Base: ten + 128, Bits: 25, Iface: 7, Time: 60},
		}},
		{Subnets: []api.Subnet{
			{Base: ten + 256, Bits: 24, Iface: 3, Time: 1},
			{Base: ten + 1<<16, Bits: 16, Iface: 1, Time: 1},
		}},
		{Subnets: []api.Subnet{
			{Base: 20 << 24, Bits: 8, Time: 9},
		}},
		{Subnets: []api.Subnet{
			{Base: 0, Bits: 8, Time: 5},
			{Base: api.MaxAddr - 3, Bits: 30, Iface: ofWire, Time: 5},
			{Base: 1 << 31, Bits: 9, Iface: 99, Time: 5},
		}},
	}}
}

// empty answers a configuration of no networks.
func empty() api.Config {
	return api.Config{Server: 1, Probation: 1}
}

// wrongs answers configurations that are not valid, in which all would be found if they were.
func wrongs() []api.Config {
	var all []api.Config
	for _, spoil := range []func(c *api.Config){
		func(c *api.Config) { c.Server = -1 },
		func(c *api.Config) { c.Server = ten + 15 },
		func(c *api.Config) { c.Probation = 0 },
		func(c *api.Config) { c.Nets = append(c.Nets, api.Net{}) },
		func(c *api.Config) { c.Nets[2].Subnets[0].Time = 0 },
		func(c *api.Config) { c.Nets[3].Subnets[1].Iface = 3 },
		func(c *api.Config) { c.Nets[0].Subnets[0].Bits = 24 },
		func(c *api.Config) { c.Nets[0].Subnets[0].Res[0].Key = "i" },
		func(c *api.Config) { c.Nets[3].Subnets[1].Router = 1 },
	} {
		c := wide()
		spoil(&c)
		all = append(all, c)
	}
	return append(all, api.Config{}, api.Config{Nets: make([]api.Net, 1000)})
}

// blank answers a message that says nothing of its place.
func blank() msg.Msg {
	return msg.Msg{Op: 1, Htype: 1, Hlen: 6, Xid: 77, Chaddr: make([]byte, 16), Opts: []api.Opt{{Code: 53, Data: []byte{1}}}}
}

// four answers the bytes of an address.
func four(a int) []byte {
	return []byte{byte(a >> 24), byte(a >> 16), byte(a >> 8), byte(a)}
}

// selecting answers the bytes of an option 82 with a link selection between others.
func selecting(a int) []byte {
	return slices.Concat([]byte{1, 1, 7, 5, 4}, four(a), []byte{2, 2, 5, 4})
}

// with answers a message with an option more.
func with(m msg.Msg, code int, data ...byte) msg.Msg {
	m.Opts = append(slices.Clone(m.Opts), api.Opt{Code: code, Data: data})
	return m
}

// A sayer is one of the four alternatives: how a message comes to say an address by it.
type sayer struct {
	name string
	say  func(m msg.Msg, a int) msg.Msg
	own  int  // the address of its own that tests take
	at   spot // and where that is
}

// sayers answers all of them, the first that counts first.
func sayers() []sayer {
	return []sayer{
		{"link", func(m msg.Msg, a int) msg.Msg { return with(m, 82, selecting(a)...) }, ofLink, atLink},
		{"Gi", func(m msg.Msg, a int) msg.Msg { m.Gi = a; return m }, ofGi, atGi},
		{"Subnet", func(m msg.Msg, a int) msg.Msg { return with(m, 118, four(a)...) }, ofSubnet, atSubnet},
		{"Ci", func(m msg.Msg, a int) msg.Msg { m.Ci = a; return m }, ofCi, atCi},
	}
}

// handLink answers the link selection, by the words of chapter 6.
func handLink(b []byte) (int, bool) {
	if len(b) > 600 {
		return 0, false
	}
	var links [][]byte
	for len(b) > 0 {
		if len(b) == 1 || len(b)-2 < int(b[1]) {
			return 0, false
		}
		data := b[2 : 2+int(b[1])]
		if b[0] == 5 {
			links = append(links, data)
		}
		b = b[2+len(data):]
	}
	if len(links) == 0 {
		return 0, false
	}
	return handNumber(links[0])
}

// handNumber answers the number of four bytes.
func handNumber(b []byte) (int, bool) {
	if len(b) != 4 {
		return 0, false
	}
	return int(b[0])<<24 | int(b[1])<<16 | int(b[2])<<8 | int(b[3]), true
}

// handData answers the data of the first option with a code.
func handData(m msg.Msg, code int) []byte {
	for _, o := range m.Opts {
		if o.Code == code {
			return o.Data
		}
	}
	return nil
}

// handPlace answers what P14.1 says.
func handPlace(m msg.Msg) (int, bool) {
	link, selected := handLink(handData(m, 82))
	subnet, _ := handNumber(handData(m, 118))
	switch {
	case selected:
		return link, true
	case m.Gi != 0:
		return m.Gi, true
	case subnet != 0:
		return subnet, true
	}
	return m.Ci, m.Ci != 0
}

// handRight: is a message valid, by the words of chapter 4?
func handRight(m msg.Msg) bool {
	codes := map[int]int{}
	for _, o := range m.Opts {
		codes[o.Code]++
		if o.Code < 1 || o.Code > 254 || o.Code == 52 || codes[o.Code] > 1 || len(o.Data) > 600 {
			return false
		}
	}
	for _, v := range []int{m.Op, m.Htype, m.Hops} {
		if v < 0 || v > 255 {
			return false
		}
	}
	for _, v := range []int{m.Secs, m.Flags} {
		if v < 0 || v > 65535 {
			return false
		}
	}
	for _, v := range []int{m.Xid, m.Ci, m.Yi, m.Si, m.Gi} {
		if v < 0 || v >= 1<<32 {
			return false
		}
	}
	return m.Hlen >= 0 && m.Hlen <= 16 && len(m.Chaddr) == 16 && len(m.Opts) <= 60
}

// handSubnet answers what P14.2 says.
func handSubnet(c api.Config, m msg.Msg, iface int) spot {
	if !handRight(m) || conf.Check(c) != api.OK {
		return spot{}
	}
	a, there := handPlace(m)
	for i, n := range c.Nets {
		for j, s := range n.Subnets {
			in := a >= s.Base && a < s.Base+1<<(32-s.Bits)
			on := iface >= 1 && s.Iface == iface
			if there && in || !there && on {
				return spot{i, j, true}
			}
		}
	}
	return spot{}
}

// numbersAround answers numbers that are no addresses, and the edges of those that are.
func numbersAround() []int {
	return []int{math.MinInt, math.MinInt + 1, -1 << 32, -1<<32 + ten, -ten, -2, -1, 0, 1, 2, ten, ten + 127, ten + 128, ten + 255, ten + 256, 1<<31 - 1, 1 << 31, api.MaxAddr - 1, api.MaxAddr, api.MaxAddr + 1, 1<<32 + ten, math.MaxInt - 1, math.MaxInt}
}

// ifaces answers numbers of interfaces: of those that are, and of others.
func ifaces() []int {
	return []int{math.MinInt, -1 << 32, -7, -1, 0, 1, 2, 3, 7, 9, 98, 99, 100, 256 + 7, 1<<32 + 7, math.MaxInt}
}

// relayed answers bytes of an option 82: with a link selection, with a wrong one, with two, without, and wrong ones.
func relayed() [][]byte {
	full, over := relayBytes(600), relayBytes(601)
	return [][]byte{
		nil, {}, {5}, {5, 4}, {5, 0}, {5, 4, 10, 0, 0}, {5, 3, 10, 0, 0}, {5, 5, 10, 0, 0, 128, 0}, {5, 4, 10, 0, 0, 128}, {5, 4, 0, 0, 0, 0}, {5, 4, 255, 255, 255, 255},
		{1, 1, 7}, {1, 4, 10, 0, 0, 128}, {2, 6, 5, 4, 10, 0, 0, 128}, {4, 4, 10, 0, 0, 128}, {6, 4, 10, 0, 0, 128}, {0, 5, 4, 10, 0, 0, 128}, {0, 0, 5, 4, 10, 0, 0, 128}, {255, 0, 5, 4, 10, 0, 0, 128},
		{5, 4, 10, 0, 0, 128, 5, 4, 20, 0, 0, 1}, {5, 0, 5, 4, 10, 0, 0, 128}, {5, 4, 10, 0, 0, 128, 5, 0}, {5, 5, 1, 2, 3, 4, 5, 5, 4, 10, 0, 0, 128},
		{5, 4, 10, 0, 0, 128, 1}, {5, 4, 10, 0, 0, 128, 1, 1}, {5, 4, 10, 0, 0, 128, 0}, {10, 0, 0, 128}, selecting(ofLink), full, over,
	}
}

// relayBytes answers so many bytes of an option 82, with a link selection at their end.
func relayBytes(n int) []byte {
	rest := n - 6 - 2*257 - 2
	return slices.Concat([]byte{1, 255}, make([]byte, 255), []byte{2, 255}, make([]byte, 255), []byte{9, byte(rest)}, make([]byte, rest), []byte{5, 4}, four(ofLink))
}

// subnetted answers data of an option Subnet.
func subnetted() [][]byte {
	return [][]byte{
		nil, {}, {0}, {10}, {10, 0, 0}, {10, 1, 0, 9}, {10, 1, 0, 9, 0}, {0, 0, 0, 0}, {0, 0, 0, 1}, {0, 0, 0, 0, 1}, {1, 0, 0, 0, 0}, {0, 0, 0}, {255, 255, 255, 255}, {0, 0, 0, 0, 10, 1, 0, 9}, make([]byte, 600), bytes.Repeat([]byte{10}, 601),
	}
}

// randomMsg answers a message whose alternatives are there or not, and wrong now and then.
func randomMsg(r *rand.Rand) msg.Msg {
	m := blank()
	m.Opts = nil
	if r.Intn(3) == 0 {
		m.Gi = randomAddr(r)
	}
	if r.Intn(2) == 0 {
		m.Ci = randomAddr(r)
	}
	for range r.Intn(4) {
		switch r.Intn(8) {
		case 0:
			m = with(m, 82, selecting(randomAddr(r))...)
		case 1:
			m = with(m, 82, oneOf(r, relayed())...)
		case 2, 3:
			m = with(m, 118, four(randomAddr(r))...)
		case 4:
			m = with(m, 118, oneOf(r, subnetted())...)
		default:
			m = with(m, r.Intn(130), four(randomAddr(r))...)
		}
	}
	if r.Intn(6) == 0 {
		spoilAny(r, &m)
	}
	return m
}

// randomAddr answers an address, often one of wide().
func randomAddr(r *rand.Rand) int {
	return oneOf(r, []int{0, 1, ofLink, ofGi, ofSubnet, ofCi, ten + r.Intn(1024), 20<<24 + r.Intn(1<<25), api.MaxAddr - r.Intn(8), int(r.Uint32())})
}

// spoilAny makes one thing of a message any other one.
func spoilAny(r *rand.Rand, m *msg.Msg) {
	if r.Intn(4) == 0 {
		m.Chaddr = make([]byte, r.Intn(20))
		return
	}
	all := []*int{&m.Op, &m.Htype, &m.Hlen, &m.Hops, &m.Xid, &m.Secs, &m.Flags, &m.Ci, &m.Yi, &m.Si, &m.Gi}
	*oneOf(r, all) = oneOf(r, append(numbersAround(), int(r.Uint64())))
}

// oneOf answers any element of a list.
func oneOf[T any](r *rand.Rand, l []T) T {
	return l[r.Intn(len(l))]
}

// tell answers a message in a few words.
func tell(m msg.Msg) string {
	return fmt.Sprintf("%.500s", fmt.Sprintf("%+v", m))
}

// places holds Place against what it has to answer.
func places(t *testing.T, m msg.Msg, want int, wantOk bool) {
	t.Helper()
	if a, ok := Place(m); a != want || ok != wantOk {
		t.Errorf("Place is %d, %v, not %d, %v: of %s", a, ok, want, wantOk, tell(m))
	}
}

// belongs holds Subnet against what it has to answer.
func belongs(t *testing.T, c api.Config, m msg.Msg, iface int, want spot) {
	t.Helper()
	if n, s, ok := Subnet(c, m, iface); (spot{n, s, ok}) != want {
		t.Errorf("Subnet is %v, not %v: of %s on %d", spot{n, s, ok}, want, tell(m), iface)
	}
}

func TestFixtures(t *testing.T) { // what the other tests lean on
	for _, c := range []api.Config{wide(), empty()} {
		if conf.Check(c) != api.OK {
			t.Errorf("not valid: %+v", c)
		}
	}
	for i, c := range wrongs() {
		if conf.Check(c) == api.OK {
			t.Errorf("configuration %d is valid", i)
		}
	}
	for _, s := range sayers() {
		if n, sub, ok := conf.Find(wide(), s.own); (spot{n, sub, ok}) != s.at {
			t.Errorf("%s is at %v", s.name, spot{n, sub, ok})
		}
	}
	if n, sub, ok := conf.OnWire(wide(), ofWire); (spot{n, sub, ok}) != atWire {
		t.Errorf("the interface is at %v", spot{n, sub, ok})
	}
	if !msg.Right(blank()) || len(relayBytes(600)) != 600 || len(relayBytes(601)) != 601 {
		t.Error("the message, or the bytes of a relay")
	}
	for _, b := range relayed() {
		a, ok := relay.LinkOf(b)
		if want, wantOk := handLink(b); a != want || ok != wantOk {
			t.Errorf("the link of %x is %d, %v, not %d, %v", b, a, ok, want, wantOk)
		}
	}
}
