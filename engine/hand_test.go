package engine

import (
	"cmp"
	"fmt"
	"math"
	"math/rand"
	"slices"
	"strings"
	"testing"

	"boarder/alloc"
	"boarder/api"
	"boarder/class"
	"boarder/conf"
	"boarder/dest"
	"boarder/key"
	"boarder/msg"
	"boarder/opts"
	"boarder/pick"
	"boarder/reply"
	"boarder/table"
)

// ten is the address 10.0.0.0, and others that the tests lean on: bases of further subnets of wide(), and single addresses.
const (
	ten      = 10 << 24
	second   = ten + 256
	third    = ten + 512
	other    = 11 << 24
	bare     = 12 << 24
	long     = 13 << 24
	own      = ten + 1  // the server's
	spot     = ten + 10 // the first one of the first pool
	nowhere  = 99<<24 + 7
	greatest = 4294967295
)

// now is the moment of most tests: leases of theirs have ended just now, or are to end at later.
const (
	now   = 50
	later = 100
)

// latest is MaxTime.
const latest = 1 << 50

// A scene is what a message comes to.
type scene struct {
	c          api.Config
	t          []api.Lease
	iface, now int
}

// A verdict is a word for what becomes of a message, and the address that it is about.
type verdict struct {
	word string
	a    int
}

// single answers the configuration of chapter 13, with an interface and a router.
func single() api.Config {
	return api.Config{Server: own, Probation: 300, Nets: []api.Net{
		{Subnets: []api.Subnet{
			{Base: ten, Bits: 24, Pools: []api.Range{{First: ten + 10, Last: ten + 20}}, Res: []api.Res{{Key: "i01", Addr: ten + 5}}, Iface: 1, Router: own, Time: 600},
		}},
	}}
}

// wide answers a configuration of four networks: the first one has three subnets that differ in all that a reply tells, the third one has no address to be had, and the last one is on no interface.
func wide() api.Config {
	return api.Config{Server: own, Probation: 300, Nets: []api.Net{
		{Subnets: []api.Subnet{
			{Base: ten, Bits: 24, Pools: []api.Range{{First: ten + 10, Last: ten + 12}}, Res: []api.Res{{Key: "i01", Addr: ten + 5}, {Key: "i03", Addr: ten + 11}}, Iface: 1, Router: own, Time: 600},
			{Base: second, Bits: 25, Pools: []api.Range{{First: second + 10, Last: second + 11}}, Res: []api.Res{{Key: "i04", Addr: second + 5}}, Iface: 1, Router: second + 1, Time: 77},
			{Base: third, Bits: 28, Iface: 3, Time: 9},
		}},
		{Subnets: []api.Subnet{
			{Base: other, Bits: 16, Pools: []api.Range{{First: other + 10, Last: other + 20}}, Res: []api.Res{{Key: "i01", Addr: other + 5}}, Iface: 2, Router: other + 1, Time: 1},
		}},
		{Subnets: []api.Subnet{
			{Base: bare, Bits: 24, Iface: 4, Time: 5},
		}},
		{Subnets: []api.Subnet{
			{Base: long, Bits: 8, Pools: []api.Range{{First: long + 1, Last: long + 1<<24 - 2}}, Router: long + 1, Time: 1 << 31},
			{Base: greatest - 3, Bits: 30, Pools: []api.Range{{First: greatest - 2, Last: greatest - 1}}, Time: 2},
			{Base: 0, Bits: 8, Pools: []api.Range{{First: 1, Last: 2}}, Time: 3},
		}},
	}}
}

// empty answers a configuration of no networks.
func empty() api.Config {
	return api.Config{Server: 1, Probation: 1}
}

// wrongConfigs answers configurations that are not valid, by whatever reason, of which most have all that wide() has for a client of the first subnet.
func wrongConfigs() []api.Config {
	var all []api.Config
	for _, spoil := range []func(c *api.Config){
		func(c *api.Config) { c.Server = -1 },
		func(c *api.Config) { c.Server = 1 << 32 },
		func(c *api.Config) { c.Server = spot },
		func(c *api.Config) { c.Server = other + 5 },
		func(c *api.Config) { c.Probation = 0 },
		func(c *api.Config) { c.Probation = 1<<31 + 1 },
		func(c *api.Config) { c.Probation = math.MaxInt },
		func(c *api.Config) {
			c.Nets = append(c.Nets, api.Net{Subnets: []api.Subnet{{Base: 98 << 24, Bits: 8, Time: 1}}})
		},
		func(c *api.Config) { c.Nets[2].Subnets = nil },
		func(c *api.Config) { c.Nets[3].Subnets[1].Time = 0 },
		func(c *api.Config) { c.Nets[0].Subnets[0].Time = 1<<31 + 1 },
		func(c *api.Config) { c.Nets[0].Subnets[0].Time = math.MaxInt },
		func(c *api.Config) { c.Nets[0].Subnets[0].Time = -1 },
		func(c *api.Config) { c.Nets[0].Subnets[0].Bits = 23 },
		func(c *api.Config) { c.Nets[0].Subnets[2].Bits = math.MinInt },
		func(c *api.Config) { c.Nets[0].Subnets[0].Base++ },
		func(c *api.Config) { c.Nets[0].Subnets[0].Router = second },
		func(c *api.Config) { c.Nets[1].Subnets[0].Iface = 1 },
		func(c *api.Config) { c.Nets[1].Subnets[0].Iface = -1 },
		func(c *api.Config) { c.Nets[0].Subnets[1].Res[0].Key = "i" },
		func(c *api.Config) { c.Nets[0].Subnets[1].Res[0].Addr = second },
		func(c *api.Config) { c.Nets[0].Subnets[1].Res[0].Key = "i01" },
		func(c *api.Config) { c.Nets[1].Subnets[0].Pools[0].First = other },
		func(c *api.Config) { c.Nets[3].Subnets[2].Pools[0].Last = math.MaxInt },
		func(c *api.Config) { c.Nets[3].Subnets[0].Pools[0].First = math.MinInt },
	} {
		c := wide()
		spoil(&c)
		all = append(all, c)
	}
	many := slices.Repeat(single().Nets, 1000)
	return append(all, api.Config{}, api.Config{Nets: many}, api.Config{Server: own, Probation: 300, Nets: many}, api.Config{Server: own, Probation: 300, Nets: make([]api.Net, 1)})
}

// lease answers a lease.
func lease(a, state, expiry int, k string) api.Lease {
	return api.Lease{Addr: a, State: state, Expiry: expiry, Key: k}
}

// bound answers a lease that is active at now.
func bound(a int, k string) api.Lease {
	return lease(a, 1, later, k)
}

// ended answers a lease that is not active any more, just at now.
func ended(a int, k string) api.Lease {
	return lease(a, 1, now, k)
}

// declined answers a lease of an address that is quarantined at now.
func declined(a int, k string) api.Lease {
	return lease(a, 3, later, k)
}

// tableOf answers a table of leases of different addresses.
func tableOf(leases ...api.Lease) []api.Lease {
	l := slices.Clone(leases)
	slices.SortFunc(l, func(x, y api.Lease) int { return cmp.Compare(x.Addr, y.Addr) })
	return l
}

// crowd answers a table of so many leases of addresses in another network of wide(), and further ones.
func crowd(n int, more ...api.Lease) []api.Lease {
	var all []api.Lease
	for i := range n {
		all = append(all, lease(long+1000+i, 1+i%3, later, "i88"))
	}
	return tableOf(append(all, more...)...)
}

// longest is the longest key.
func longest() string {
	return "i" + strings.Repeat("x", 255)
}

// wrongTables answers lists that are no tables, with a lease of spot for i02 ahead in most of them.
func wrongTables() [][]api.Lease {
	a, b := bound(spot, "i02"), bound(ten+12, "i07")
	return [][]api.Lease{
		{b, a}, {a, a}, {a, ended(spot, "i07")}, {a, b, a}, crowd(64, a), crowd(1000, a), {{}}, {a, {}}, make([]api.Lease, 1000),
		{a, lease(b.Addr, 0, 1, "i01")}, {a, lease(b.Addr, 4, 1, "i01")}, {a, lease(b.Addr, math.MinInt, 1, "i01")},
		{a, lease(b.Addr, 1, -1, "i01")}, {a, lease(b.Addr, 1, latest+1, "i01")}, {a, lease(b.Addr, 1, math.MaxInt, "i01")},
		{lease(-1, 1, 1, "i01"), a}, {a, lease(greatest+1, 1, 1, "i01")}, {a, lease(math.MaxInt, 1, 1, "i01")},
		{a, lease(b.Addr, 1, 1, "")}, {a, lease(b.Addr, 1, 1, "i0")}, {a, lease(b.Addr, 1, 1, "x01")}, {a, lease(b.Addr, 1, 1, longest()+"x")},
	}
}

// option answers an option.
func option(code int, data ...byte) api.Opt {
	return api.Opt{Code: code, Data: data}
}

// four answers the bytes of an address.
func four(a int) []byte {
	return []byte{byte(a >> 24), byte(a >> 16), byte(a >> 8), byte(a)}
}

// wants answers the option Wanted.
func wants(a int) api.Opt {
	return option(50, four(a)...)
}

// names answers the option Server.
func names(a int) api.Opt {
	return option(54, four(a)...)
}

// links answers the option 82 of a relay that selects a link.
func links(a int) api.Opt {
	return option(82, append([]byte{5, 4}, four(a)...)...)
}

// says answers a client's message of a type, with options more.
func says(k string, kind int, more ...api.Opt) msg.Msg {
	l := []api.Opt{option(53, byte(kind)), option(61, []byte(k[1:])...)}
	return msg.Msg{Op: 1, Htype: 1, Hlen: 6, Xid: 77, Chaddr: hardware(), Opts: append(l, more...)}
}

// hardware answers the hardware address of all clients.
func hardware() []byte {
	return []byte{2, 0, 0, 0, 0, 7, 11, 12, 13, 14, 15, 16, 17, 18, 19, 20}
}

// from answers a message with another Ci.
func from(ci int, m msg.Msg) msg.Msg {
	m.Ci = ci
	return m
}

// relayed answers a message that a relay sends.
func relayed(gi int, m msg.Msg) msg.Msg {
	m.Gi = gi
	return m
}

// flagged answers a message with other flags.
func flagged(flags int, m msg.Msg) msg.Msg {
	m.Flags = flags
	return m
}

// selects answers a Request that selects the server's offer.
func selects(k string, a int) msg.Msg {
	return says(k, 3, names(own), wants(a))
}

// reboots answers a Request of a client that starts again.
func reboots(k string, a int) msg.Msg {
	return says(k, 3, wants(a))
}

// extends answers a Request of a client that extends its lease.
func extends(k string, a int) msg.Msg {
	return from(a, says(k, 3))
}

// requests answers the Requests of all three classes, each by way of a relay in a subnet, so that it belongs to that.
func requests(k string, a, link int) []msg.Msg {
	return []msg.Msg{relayed(link, selects(k, a)), relayed(link, reboots(k, a)), relayed(link, extends(k, a))}
}

// wrongMsgs answers messages that are not valid, spoiled from one, each by another reason.
func wrongMsgs(m msg.Msg) []msg.Msg {
	var all []msg.Msg
	for i, limit := range []int{255, 255, 16, 255, greatest, 65535, 65535, greatest, greatest, greatest, greatest} {
		for _, v := range []int{math.MinInt, -1, limit + 1, math.MaxInt} {
			x := m
			*fields(&x)[i] = v
			all = append(all, x)
		}
	}
	for _, n := range []int{0, 6, 15, 17, 300} {
		x := m
		x.Chaddr = make([]byte, n)
		all = append(all, x)
	}
	for _, l := range [][]api.Opt{{option(52, 1)}, {option(53, 1)}, {option(61, 1, 2)}, {option(0, 1)}, {option(255, 1)}, {option(-1)}, {option(math.MaxInt)}, {option(256 + 12)}, {option(12, make([]byte, 601)...)}, make([]api.Opt, 61)} {
		x := m
		x.Opts = slices.Concat(m.Opts, l)
		all = append(all, x)
	}
	return all
}

// fields answers the numbers of a message's header, in their order.
func fields(m *msg.Msg) []*int {
	return []*int{&m.Op, &m.Htype, &m.Hlen, &m.Hops, &m.Xid, &m.Secs, &m.Flags, &m.Ci, &m.Yi, &m.Si, &m.Gi}
}

// without answers a message without an option.
func without(m msg.Msg, code int) msg.Msg {
	m.Opts = slices.DeleteFunc(slices.Clone(m.Opts), func(o api.Opt) bool { return o.Code == code })
	return m
}

// with answers a message with options more.
func with(m msg.Msg, more ...api.Opt) msg.Msg {
	m.Opts = slices.Concat(m.Opts, more)
	return m
}

// at answers a scene at now on the first interface.
func at(c api.Config, leases ...api.Lease) scene {
	return scene{c, tableOf(leases...), 1, now}
}

// text answers all of an answer, nil and empty lists alike.
func text(a Answer) string {
	return fmt.Sprintf("%+v", a)
}

// tell answers a scene and a message in a few words.
func tell(s scene, m msg.Msg) string {
	return fmt.Sprintf("%.700s on %d at %d with %.500s in %.900s", fmt.Sprintf("%+v", m), s.iface, s.now, fmt.Sprintf("%+v", s.t), fmt.Sprintf("%+v", s.c))
}

// handle answers what Handle does.
func handle(s scene, m msg.Msg) Answer {
	return Handle(s.c, s.t, m, s.iface, s.now)
}

// handles holds Handle against what it has to answer.
func handles(t *testing.T, s scene, m msg.Msg, want Answer) {
	t.Helper()
	if got := handle(s, m); text(got) != text(want) {
		t.Errorf("%.700s, not %.700s: %s", text(got), text(want), tell(s, m))
	}
}

// ignores: Handle has to answer nothing.
func ignores(t *testing.T, s scene, m msg.Msg) {
	t.Helper()
	handles(t, s, m, Answer{})
}

// sends answers an answer with a reply for a subnet, which is taken as reply and dest make it.
func sends(s scene, m msg.Msg, net, sub, kind, a int) Answer {
	r, e := reply.Make(s.c, net, sub, m, kind, a)
	if e != api.OK {
		panic("the test makes no reply of " + tell(s, m))
	}
	return Answer{Send: true, Reply: r, To: dest.Of(m, kind, a)}
}

// offers: Handle has to offer an address of a subnet.
func offers(t *testing.T, s scene, m msg.Msg, net, sub, a int) {
	t.Helper()
	handles(t, s, m, sends(s, m, net, sub, 2, a))
}

// grants: Handle has to grant an address of a subnet to a client, until a moment.
func grants(t *testing.T, s scene, m msg.Msg, net, sub, a int, k string, until int) {
	t.Helper()
	want := sends(s, m, net, sub, 5, a)
	want.Keep, want.Lease = true, lease(a, 1, until, k)
	handles(t, s, m, want)
}

// denies: Handle has to send a Nak for a subnet.
func denies(t *testing.T, s scene, m msg.Msg, net, sub int) {
	t.Helper()
	handles(t, s, m, sends(s, m, net, sub, 6, 0))
}

// informs: Handle has to send an Ack without an address for a subnet.
func informs(t *testing.T, s scene, m msg.Msg, net, sub int) {
	t.Helper()
	handles(t, s, m, sends(s, m, net, sub, 5, 0))
}

// keeps: Handle has to have a lease stored, and to send nothing.
func keeps(t *testing.T, s scene, m msg.Msg, l api.Lease) {
	t.Helper()
	handles(t, s, m, Answer{Keep: true, Lease: l})
}

// handWhere answers where an address is, or -1 and -1.
func handWhere(c api.Config, a int) (int, int) {
	for i, n := range c.Nets {
		for j, s := range n.Subnets {
			if a >= s.Base && a < s.Base+1<<(32-s.Bits) {
				return i, j
			}
		}
	}
	return -1, -1
}

// handLease answers a table's lease of an address, or the zero one, of which the state is none.
func handLease(l []api.Lease, a int) api.Lease {
	for _, x := range l {
		if x.Addr == a {
			return x
		}
	}
	return api.Lease{}
}

// handNumber answers the number in an option of four bytes, or -1.
func handNumber(m msg.Msg, code int) int {
	for _, o := range m.Opts {
		if o.Code == code && len(o.Data) == 4 {
			return int(o.Data[0])<<24 | int(o.Data[1])<<16 | int(o.Data[2])<<8 | int(o.Data[3])
		}
	}
	return -1
}

// handRefused: is a message none that is processed?
func handRefused(s scene, m msg.Msg) bool {
	_, e := key.Of(m)
	_, _, ok := pick.Subnet(s.c, m, s.iface)
	named := handNumber(m, 54)
	for _, wrong := range []bool{
		named >= 0 && named != s.c.Server, !ok, e != api.OK, m.Op != 1, !msg.Right(m), s.now < 0, s.now > latest, !table.Right(s.t), conf.Check(s.c) != api.OK,
	} {
		if wrong {
			return true
		}
	}
	return false
}

// handVerdict answers what P19.1 says of a message; what layers below say who may get an address and which one is chosen is so.
func handVerdict(s scene, m msg.Msg) verdict {
	nothing := verdict{"nothing", 0}
	if handRefused(s, m) {
		return nothing
	}
	k, _ := key.Of(m)
	net, _, _ := pick.Subnet(s.c, m, s.iface)
	wanted := max(handNumber(m, 50), 0)
	switch opts.KindOf(m.Opts) {
	case 1:
		if a, ok := alloc.Choose(s.c, s.t, net, k, wanted, s.now); ok {
			return verdict{"offer", a}
		}
	case 3:
		return handRequest(s, m, net, k)
	case 4:
		if l := handLease(s.t, wanted); l.State == 1 && l.Expiry > s.now && l.Key == k {
			return verdict{"declined", wanted}
		}
	case 7:
		if l := handLease(s.t, m.Ci); l.State == 1 && l.Expiry > s.now && l.Key == k {
			return verdict{"released", m.Ci}
		}
	case 8:
		if m.Ci > 0 {
			return verdict{"inform", 0}
		}
	}
	return nothing
}

// handRequest answers what P19.1 says of a Request.
func handRequest(s scene, m msg.Msg, net int, k string) verdict {
	nothing, nak := verdict{"nothing", 0}, verdict{"nak", 0}
	a, purpose := class.About(m), class.Of(m)
	if purpose == class.Wrong {
		return nothing
	}
	if where, _ := handWhere(s.c, a); where != net {
		return nak
	}
	l, may := handLease(s.t, a), alloc.May(s.c, s.t, net, k, a, s.now)
	switch purpose {
	case class.Reboot, class.Extend:
		if l.State == 0 {
			return nothing
		}
		may = may && l.Key == k && l.State != 3
	}
	if !may {
		return nak
	}
	if len(s.t) == 64 && l.State == 0 {
		return nothing
	}
	return verdict{"grant", a}
}

// handHandle answers what P19.1 and P19.2 say.
func handHandle(s scene, m msg.Msg) Answer {
	v := handVerdict(s, m)
	k, _ := key.Of(m)
	net, sub, _ := pick.Subnet(s.c, m, s.iface)
	there, part := handWhere(s.c, v.a)
	switch v.word {
	case "offer":
		return sends(s, m, there, part, 2, v.a)
	case "nak":
		return sends(s, m, net, sub, 6, 0)
	case "inform":
		return sends(s, m, net, sub, 5, 0)
	case "declined":
		return Answer{Keep: true, Lease: lease(v.a, 3, handEnd(s.now, s.c.Probation), k)}
	case "released":
		return Answer{Keep: true, Lease: lease(v.a, 2, s.now, k)}
	case "grant":
		x := sends(s, m, there, part, 5, v.a)
		x.Keep, x.Lease = true, lease(v.a, 1, handEnd(s.now, s.c.Nets[there].Subnets[part].Time), k)
		return x
	}
	return Answer{}
}

// handEnd answers the end of a period.
func handEnd(now, period int) int {
	if left := latest - now; period > left {
		return latest
	}
	return now + period
}

// agrees holds Handle against the words.
func agrees(t *testing.T, s scene, m msg.Msg) {
	t.Helper()
	handles(t, s, m, handHandle(s, m))
}

// oneOf answers any element of a list.
func oneOf[T any](r *rand.Rand, l []T) T {
	return l[r.Intn(len(l))]
}

func TestFixtures(t *testing.T) { // what the other tests lean on
	for _, c := range []api.Config{single(), wide(), empty()} {
		if conf.Check(c) != api.OK {
			t.Errorf("not valid: %+v", c)
		}
	}
	for i, c := range wrongConfigs() {
		if conf.Check(c) == api.OK {
			t.Errorf("configuration %d is valid", i)
		}
	}
	for i, l := range wrongTables() {
		if table.Right(l) {
			t.Errorf("table %d is right", i)
		}
	}
	for i, m := range wrongMsgs(says("i02", 1)) {
		if msg.Right(m) {
			t.Errorf("message %d is valid", i)
		}
	}
	if !table.Right(crowd(63, bound(spot, longest()))) || len(crowd(63, bound(spot, "i02"))) != api.MaxLeases || latest != api.MaxTime || greatest != api.MaxAddr {
		t.Error("the full table, or the limits")
	}
	for i, m := range requests("i02", spot, third+1) {
		if class.Of(m) != i+1 || class.About(m) != spot || !msg.Right(m) {
			t.Errorf("the class %d: %+v", i+1, m)
		}
	}
	if k, e := key.Of(says("i02", 1)); k != "i02" || e != api.OK {
		t.Errorf("the key %q, %d", k, e)
	}
	if opts.Discover != 1 || opts.Offer != 2 || opts.Request != 3 || opts.Decline != 4 || opts.Ack != 5 || opts.Nak != 6 || opts.Release != 7 || opts.Inform != 8 {
		t.Error("the types")
	}
	if opts.Wanted != 50 || opts.Server != 54 || opts.Client != 61 || api.Bound != 1 || api.Released != 2 || api.Declined != 3 {
		t.Error("the codes, or the states")
	}
}
