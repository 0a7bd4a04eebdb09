package reply

import (
	"bytes"
	"fmt"
	"math"
	"math/rand"
	"slices"
	"testing"

	"boarder/api"
	"boarder/conf"
	"boarder/msg"
	"boarder/opts"
	"boarder/relay"
)

// ten is the address 10.0.0.0, and others that the tests lean on.
const (
	ten      = 10 << 24
	own      = ten + 1  // the server's
	given    = ten + 10 // the one that a reply is about
	held     = ten + 9  // the one that a client has
	relayed  = ten + 3  // a relay's
	greatest = 4294967295
)

// replyKinds answers the types of replies: an Offer, an Ack and a Nak.
func replyKinds() []int {
	return []int{2, 5, 6}
}

// otherKinds answers every other type, and numbers that are none.
func otherKinds() []int {
	return []int{1, 3, 4, 7, 8, 0, 9, 13, 18, 22, 53, 255, 256, 256 + 2, 256 + 5, 256 + 6, 1<<16 + 5, 1<<32 + 2, 1<<32 + 6, math.MaxInt, -1, -2, -5, -6, -251, math.MinInt, math.MinInt + 5}
}

// single answers the configuration of chapter 13, with a router.
func single() api.Config {
	return api.Config{Server: own, Probation: 300, Nets: []api.Net{
		{Subnets: []api.Subnet{
			{Base: ten, Bits: 24, Pools: []api.Range{{First: ten + 10, Last: ten + 20}}, Res: []api.Res{{Key: "i01", Addr: ten + 5}}, Iface: 1, Router: own, Time: 600},
		}},
	}}
}

// empty answers a configuration of no networks.
func empty() api.Config {
	return api.Config{Server: 1, Probation: 1}
}

// wide answers a configuration of as many networks as there may be: some of its subnets have a router and others none, each has another time, and the least and the greatest numbers are in it.
func wide() api.Config {
	return api.Config{Server: own, Probation: api.MaxSpan, Nets: []api.Net{
		{Subnets: []api.Subnet{
			{Base: ten, Bits: 24, Pools: []api.Range{{First: ten + 10, Last: ten + 20}}, Res: []api.Res{{Key: "i01", Addr: ten + 5}}, Iface: 1, Router: own, Time: 600},
			{Base: ten + 256, Bits: 24, Iface: 1, Time: 601},
			{Base: ten + 1<<16, Bits: 16, Iface: 1, Router: ten + 1<<16 + 7, Time: 1},
			{Base: ten + 1<<17, Bits: 17, Iface: 7, Router: ten + 1<<17, Time: 65536},
		}},
		{Subnets: []api.Subnet{
			{Base: 0, Bits: 8, Router: 1, Time: 255},
		}},
		{Subnets: []api.Subnet{
			{Base: 20 << 24, Bits: 9, Iface: 99, Time: 256},
			{Base: greatest - 3, Bits: 30, Iface: 2, Router: greatest, Time: 1 << 31},
			{Base: 1 << 31, Bits: 29, Router: 1<<31 + 6, Time: 1<<31 - 1},
		}},
		{Subnets: []api.Subnet{
			{Base: 30 << 24, Bits: 23, Time: 1<<24 + 1},
			{Base: 40 << 24, Bits: 10, Router: 40<<24 + 1, Time: 77},
		}},
	}}
}

// A place is a configuration and two indices.
type place struct {
	c        api.Config
	net, sub int
}

// places answers all subnets of wide().
func places() []place {
	var all []place
	for i, n := range wide().Nets {
		for j := range n.Subnets {
			all = append(all, place{wide(), i, j})
		}
	}
	return all
}

// wrongConfigs answers configurations that are not valid, each by another reason.
func wrongConfigs() []api.Config {
	var all []api.Config
	for _, spoil := range []func(c *api.Config){
		func(c *api.Config) { c.Server = -1 },
		func(c *api.Config) { c.Server = 1 << 32 },
		func(c *api.Config) { c.Server = ten + 15 },
		func(c *api.Config) { c.Server = ten + 5 },
		func(c *api.Config) { c.Probation = 0 },
		func(c *api.Config) { c.Probation = 1<<31 + 1 },
		func(c *api.Config) {
			c.Nets = append(c.Nets, api.Net{Subnets: []api.Subnet{{Base: 99 << 24, Bits: 8, Time: 1}}})
		},
		func(c *api.Config) { c.Nets[1].Subnets = nil },
		func(c *api.Config) {
			c.Nets[0].Subnets = append(c.Nets[0].Subnets, api.Subnet{Base: 99 << 24, Bits: 8, Time: 1})
		},
		func(c *api.Config) { c.Nets[0].Subnets[0].Time = 0 },
		func(c *api.Config) { c.Nets[0].Subnets[0].Time = 1<<31 + 1 },
		func(c *api.Config) { c.Nets[0].Subnets[0].Bits = 7 },
		func(c *api.Config) { c.Nets[0].Subnets[0].Bits = 33 },
		func(c *api.Config) { c.Nets[0].Subnets[0].Bits = math.MinInt },
		func(c *api.Config) { c.Nets[0].Subnets[0].Base++ },
		func(c *api.Config) { c.Nets[0].Subnets[0].Router = 1 },
		func(c *api.Config) { c.Nets[0].Subnets[0].Router = -1 },
		func(c *api.Config) { c.Nets[0].Subnets[0].Iface = 100 },
		func(c *api.Config) { c.Nets[0].Subnets[0].Res[0].Key = "i" },
		func(c *api.Config) { c.Nets[0].Subnets[0].Pools[0].First = ten },
		func(c *api.Config) { c.Nets[3].Subnets[1].Iface = 1 },
		func(c *api.Config) { c.Nets[3].Subnets[1].Base = ten + 512; c.Nets[0].Subnets[1].Bits = 22 },
		func(c *api.Config) { c.Nets[2].Subnets[2].Time = 0 },
		func(c *api.Config) { c.Nets[0].Subnets[0].Pools = poolsOf(5) },
		func(c *api.Config) { c.Nets[0].Subnets[0].Res = keptOf(9) },
	} {
		c := wide()
		spoil(&c)
		all = append(all, c)
	}
	one := single()
	one.Nets[0].Subnets = append(one.Nets[0].Subnets, api.Subnet{Base: ten + 128, Bits: 25, Time: 1})
	many := slices.Repeat(single().Nets, 1000)
	return append(all, one, api.Config{}, api.Config{Nets: many}, api.Config{Server: own, Probation: 300, Nets: many}, api.Config{Server: own, Probation: 300, Nets: make([]api.Net, 1)})
}

// poolsOf answers so many pools of single()'s subnet, with one address each.
func poolsOf(n int) []api.Range {
	var all []api.Range
	for i := range n {
		all = append(all, api.Range{First: ten + 30 + i, Last: ten + 30 + i})
	}
	return all
}

// keptOf answers so many reservations of that subnet.
func keptOf(n int) []api.Res {
	var all []api.Res
	for i := range n {
		all = append(all, api.Res{Key: "ik" + string(rune('a'+i)), Addr: ten + 50 + i})
	}
	return all
}

// noPlaces answers valid configurations with indices of which there is no subnet.
func noPlaces() []place {
	all := []place{{empty(), 0, 0}, {empty(), -1, -1}, {single(), 0, 1}, {single(), 1, 0}, {single(), 1, 1}}
	wrong := []int{math.MinInt, math.MinInt + 1, -1 << 32, -4, -2, -1, 4, 5, 255, 256, 1 << 16, 1 << 32, math.MaxInt - 1, math.MaxInt}
	for _, n := range wrong {
		all = append(all, place{wide(), n, 0}, place{wide(), n, 1}, place{wide(), 0, n}, place{wide(), 3, n}, place{wide(), n, n}, place{single(), n, 0}, place{single(), 0, n}, place{empty(), n, 0}, place{empty(), 0, n})
	}
	// Indices of which another network has a subnet, but not this one.
	return append(all, place{wide(), 1, 1}, place{wide(), 1, 3}, place{wide(), 2, 3}, place{wide(), 3, 2}, place{wide(), 3, 3})
}

// plain answers a message of a client without options.
func plain() msg.Msg {
	chaddr := []byte{2, 0, 0, 0, 0, 7, 11, 12, 13, 14, 15, 16, 17, 18, 19, 20}
	return msg.Msg{Op: 1, Htype: 1, Hlen: 6, Xid: 77, Chaddr: chaddr}
}

// full answers a message in which each field has another number.
func full() msg.Msg {
	m := plain()
	m.Hops, m.Secs, m.Flags, m.Ci, m.Yi, m.Si, m.Gi = 3, 500, 4096, held, ten+21, ten+22, relayed
	m = with(m, 53, 3)
	m = with(m, 12, 'h', 'o')
	m = with(m, 61, 1, 2, 3)
	m = with(m, 50, four(given)...)
	m = with(m, 82, 1, 1, 7)
	return with(m, 54, four(own)...)
}

// with answers a message with an option more.
func with(m msg.Msg, code int, data ...byte) msg.Msg {
	m.Opts = append(slices.Clone(m.Opts), api.Opt{Code: code, Data: data})
	return m
}

// wrongMsgs answers messages that are not valid, each by another reason.
func wrongMsgs() []msg.Msg {
	all := []msg.Msg{{}}
	for i, limit := range []int{255, 255, 16, 255, greatest, 65535, 65535, greatest, greatest, greatest, greatest} {
		for _, v := range []int{math.MinInt, -1, limit + 1, math.MaxInt} {
			m := full()
			*fields(&m)[i] = v
			all = append(all, m)
		}
	}
	for _, n := range []int{0, 1, 6, 15, 17, 300} {
		m := full()
		m.Chaddr = make([]byte, n)
		all = append(all, m)
	}
	long := make([]byte, 601)
	all = append(all, with(full(), 52, 1), with(full(), 53, 3), with(full(), 61, 1, 2, 3), with(full(), 82), with(full(), 55, long...), with(plain(), 61, long...), with(plain(), 82, long...))
	for _, code := range []int{math.MinInt, -53, -1, 0, 255, 256, 256 + 53, math.MaxInt} {
		all = append(all, with(full(), code, 1))
	}
	crowd, many := plain(), plain()
	for code := 101; code <= 161; code++ {
		crowd = with(crowd, code, 1)
	}
	many.Opts = make([]api.Opt, 100000)
	return append(all, crowd, many)
}

// fields answers the numbers of a message's header, in their order.
func fields(m *msg.Msg) []*int {
	return []*int{&m.Op, &m.Htype, &m.Hlen, &m.Hops, &m.Xid, &m.Secs, &m.Flags, &m.Ci, &m.Yi, &m.Si, &m.Gi}
}

// noAddrs answers numbers that are no addresses.
func noAddrs() []int {
	return []int{math.MinInt, math.MinInt + given, -1 << 32, -1<<32 + given, -given, -2, -1, greatest + 1, greatest + 2, 1<<32 + given, 1 << 40, math.MaxInt - 1, math.MaxInt}
}

// addrs answers addresses.
func addrs() []int {
	return []int{0, 1, 255, 256, held, given, 1<<31 - 1, 1 << 31, 20<<24 + 5, greatest - 1, greatest}
}

// four answers the bytes of an address.
func four(a int) []byte {
	return []byte{byte(a >> 24), byte(a >> 16), byte(a >> 8), byte(a)}
}

// option answers an option.
func option(code int, data ...byte) api.Opt {
	return api.Opt{Code: code, Data: data}
}

// text answers all of a message, nil and empty lists alike.
func text(m msg.Msg) string {
	return fmt.Sprintf("%+v", m)
}

// tell answers a message in a few words.
func tell(m msg.Msg) string {
	return fmt.Sprintf("%.700s", text(m))
}

// handAsked answers what P18.1 says.
func handAsked(m msg.Msg, code int) bool {
	for _, o := range m.Opts {
		if o.Code == 55 {
			for _, b := range o.Data {
				if int(b) == code {
					return true
				}
			}
			return false
		}
	}
	return true
}

// handMake answers what P18.2 says; what layers below say is valid is so.
func handMake(p place, m msg.Msg, kind, yi int) (msg.Msg, api.Errno) {
	if conf.Check(p.c) != api.OK || !msg.Right(m) || kind != 2 && kind != 5 && kind != 6 || yi < 0 || yi > greatest {
		return msg.Msg{}, 1
	}
	if p.net < 0 || p.sub < 0 || p.net >= len(p.c.Nets) || p.sub >= len(p.c.Nets[p.net].Subnets) {
		return msg.Msg{}, 1
	}
	x := m
	x.Op, x.Hops, x.Secs, x.Si, x.Yi = 2, 0, 0, 0, yi
	if kind != 5 {
		x.Ci = 0
	}
	if kind == 6 {
		x.Yi = 0
		if m.Gi > 0 {
			x.Flags |= 0x8000
		}
	}
	x.Opts = handOptions(p, m, kind, yi)
	return x, 0
}

// handOptions answers the options that P18.2 lists: of all that may be, those that are there.
func handOptions(p place, m msg.Msg, kind, yi int) []api.Opt {
	s := p.c.Nets[p.net].Subnets[p.sub]
	client := slices.IndexFunc(m.Opts, func(o api.Opt) bool { return o.Code == 61 })
	agent := slices.IndexFunc(m.Opts, func(o api.Opt) bool { return o.Code == 82 })
	grants := kind == 2 || kind == 5
	var l []api.Opt
	for _, x := range []struct {
		there bool
		o     func() api.Opt
	}{
		{true, func() api.Opt { return option(53, byte(kind)) }},
		{true, func() api.Opt { return option(54, four(p.c.Server)...) }},
		{grants && yi > 0, func() api.Opt { return option(51, four(s.Time)...) }},
		{grants && handAsked(m, 1), func() api.Opt { return option(1, four(-1<<(32-s.Bits))...) }},
		{grants && handAsked(m, 3) && s.Router > 0, func() api.Opt { return option(3, four(s.Router)...) }},
		{client >= 0, func() api.Opt { return m.Opts[client] }},
		{agent >= 0, func() api.Opt { return m.Opts[agent] }},
	} {
		if x.there {
			l = append(l, x.o())
		}
	}
	return l
}

// makes holds Make against what it has to answer.
func makes(t *testing.T, p place, m msg.Msg, kind, yi int, want msg.Msg, wantE api.Errno) {
	t.Helper()
	got, e := Make(p.c, p.net, p.sub, m, kind, yi)
	if text(got) != text(want) || e != wantE {
		t.Errorf("%s, %d, not %s, %d: subnet %d %d, type %d, yi %d, of %s", tell(got), e, tell(want), wantE, p.net, p.sub, kind, yi, tell(m))
	}
}

// agrees holds Make against the words.
func agrees(t *testing.T, p place, m msg.Msg, kind, yi int) {
	t.Helper()
	want, e := handMake(p, m, kind, yi)
	makes(t, p, m, kind, yi, want, e)
}

// refuses: Make has to answer ErrArg, and nothing beside it.
func refuses(t *testing.T, p place, m msg.Msg, kind, yi int) {
	t.Helper()
	makes(t, p, m, kind, yi, msg.Msg{}, api.ErrArg)
}

// made answers a reply of which no error is expected.
func made(t *testing.T, p place, m msg.Msg, kind, yi int) msg.Msg {
	t.Helper()
	x, e := Make(p.c, p.net, p.sub, m, kind, yi)
	if e != api.OK {
		t.Errorf("error %d: subnet %d %d, type %d, yi %d, of %s", e, p.net, p.sub, kind, yi, tell(m))
	}
	return x
}

// has holds the options of a reply against those that it has to have.
func has(t *testing.T, x msg.Msg, want ...api.Opt) {
	t.Helper()
	if got := fmt.Sprint(x.Opts); got != fmt.Sprint(want) {
		t.Errorf("the options %.300s, not %.300s", got, fmt.Sprint(want))
	}
}

// first answers the chapter's subnet.
func first() place {
	return place{single(), 0, 0}
}

// oneOf answers any element of a list.
func oneOf[T any](r *rand.Rand, l []T) T {
	return l[r.Intn(len(l))]
}

// randomMsg answers a valid message with anything in it.
func randomMsg(r *rand.Rand) msg.Msg {
	m := msg.Msg{Op: r.Intn(256), Htype: r.Intn(256), Hlen: r.Intn(17), Hops: r.Intn(256), Xid: int(r.Uint32()), Secs: r.Intn(1 << 16), Flags: r.Intn(1 << 16)}
	for _, f := range []*int{&m.Ci, &m.Yi, &m.Si, &m.Gi} {
		if r.Intn(2) == 0 {
			*f = oneOf(r, append(addrs(), int(r.Uint32())))
		}
	}
	m.Chaddr = make([]byte, 16)
	r.Read(m.Chaddr)
	for _, i := range r.Perm(7)[:r.Intn(8)] {
		code := []int{55, 61, 82, 1, 3, 51, 110 + r.Intn(10)}[i]
		m = with(m, code, randomData(r)...)
	}
	return m
}

// randomData answers an option's data, with small numbers among them so that Params lists Mask and Router.
func randomData(r *rand.Rand) []byte {
	b := make([]byte, oneOf(r, []int{0, 1, 2, 4, 4, 9, 255, 256, 600}))
	for i := range b {
		b[i] = byte(r.Intn(6))
		if r.Intn(3) == 0 {
			b[i] = byte(r.Intn(256))
		}
	}
	return b
}

func TestFixtures(t *testing.T) { // what the other tests lean on
	for _, c := range []api.Config{single(), empty(), wide()} {
		if conf.Check(c) != api.OK {
			t.Errorf("not valid: %+v", c)
		}
	}
	for i, c := range wrongConfigs() {
		if conf.Check(c) == api.OK {
			t.Errorf("configuration %d is valid", i)
		}
	}
	for _, m := range []msg.Msg{plain(), full()} {
		if !msg.Right(m) {
			t.Errorf("not valid: %s", tell(m))
		}
	}
	for i, m := range wrongMsgs() {
		if msg.Right(m) {
			t.Errorf("message %d is valid", i)
		}
	}
	for i, p := range noPlaces() {
		if conf.Check(p.c) != api.OK {
			t.Errorf("the configuration of place %d is not valid", i)
		}
	}
	most := first()
	most.c.Nets[0].Subnets[0].Pools, most.c.Nets[0].Subnets[0].Res = poolsOf(4), keptOf(8)
	agrees(t, most, full(), opts.Ack, given)
	if len(places()) != 10 || conf.Check(most.c) != api.OK || opts.Offer != 2 || opts.Ack != 5 || opts.Nak != 6 || relay.Code != 82 || api.MaxAddr != greatest {
		t.Error("the subnets, or the numbers of the layers below")
	}
	if !bytes.Equal(four(given), []byte{10, 0, 0, 10}) || text(msg.Msg{Chaddr: []byte{}, Opts: []api.Opt{}}) != text(msg.Msg{}) {
		t.Error("the bytes of an address, or empty lists")
	}
}
