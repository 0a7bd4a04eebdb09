package engine

import (
	"math"
	"math/rand"
	"slices"
	"testing"

	"boarder/alloc"
	"boarder/api"
	"boarder/conf"
	"boarder/key"
	"boarder/msg"
	"boarder/opts"
	"boarder/pick"
	"boarder/table"
)

// spots answers addresses of all kinds.
func spots() []int {
	return []int{0, 1, 2, ten, own, ten + 5, spot, ten + 11, ten + 12, ten + 13, ten + 99, second + 5, second + 10, second + 11, second + 99, third + 1, third + 14, other + 5, other + 10, other + 11, bare + 3, long + 1, long + 2, nowhere, greatest - 2, greatest - 1, greatest}
}

// randomSpot answers one of them, mostly one that clients get on the first interface.
func randomSpot(r *rand.Rand) int {
	if r.Intn(4) == 0 {
		return oneOf(r, spots())
	}
	return oneOf(r, []int{ten + 5, spot, ten + 12, second + 10, second + 11})
}

// someKeys answers the keys of the clients of random tests.
func someKeys() []string {
	return []string{"i01", "i02", "i02", "i04", longest()}
}

// randomTable answers a table, often a full one.
func randomTable(r *rand.Rand, now int) []api.Lease {
	var l []api.Lease
	for range r.Intn(7) {
		expiry := min(max(now-1+r.Intn(5), 0), latest)
		l, _ = table.Set(l, lease(randomSpot(r), oneOf(r, []int{1, 1, 1, 2, 3}), expiry, oneOf(r, someKeys())))
	}
	room := api.MaxLeases - len(l)
	return crowd(oneOf(r, []int{0, r.Intn(room + 1), room}), l...)
}

// randomScene answers a scene of wide() or single().
func randomScene(r *rand.Rand) scene {
	moment := oneOf(r, []int{0, 1, now, now, now, latest - 100, latest - 1, latest})
	s := scene{wide(), randomTable(r, moment), oneOf(r, []int{0, 1, 1, 1, 1, 2, 3, 4, 7}), moment}
	if r.Intn(6) == 0 {
		s.c = single()
	}
	return s
}

// randomMsg answers a client's message of any type, mostly one that makes sense.
func randomMsg(r *rand.Rand) msg.Msg {
	m := says(oneOf(r, someKeys()), oneOf(r, []int{1, 1, 3, 3, 3, 3, 4, 4, 4, 4, 7, 7, 7, 7, 8, 8, 0, 2, 5, 6, 9}))
	if r.Intn(8) == 0 {
		m = without(m, 61)
		m.Hlen = r.Intn(3)
	}
	claims := r.Intn(2) == 0 // the client says that it has an address
	if kind := opts.KindOf(m.Opts); claims && kind != 4 || kind > 4 {
		m.Ci = randomSpot(r)
	} else {
		m = with(m, wants(randomSpot(r)))
	}
	for _, o := range []api.Opt{names(oneOf(r, []int{own, own, own, own, own + 1})), links(randomSpot(r)), option(118, four(randomSpot(r))...), option(55, 1, 3), option(12, 1)} {
		odds := map[int]int{54: 3, 82: 8, 118: 8, 55: 4, 12: 9}[o.Code]
		if r.Intn(odds) == 0 {
			m = with(m, o)
		}
	}
	if r.Intn(12) == 0 {
		m = with(without(m, 50), wants(randomSpot(r)))
	}
	if r.Intn(5) == 0 {
		m.Gi = randomSpot(r)
	}
	m.Flags = oneOf(r, []int{0, 0, 1, 32768, 65535})
	return m
}

// holds holds what Handle answers against P19.3, P19.4, P19.5 and P19.7.
func holds(t *testing.T, s scene, m msg.Msg) {
	t.Helper()
	x := handle(s, m)
	k, _ := key.Of(m)
	net, _, _ := pick.Subnet(s.c, m, s.iface)
	where, sub, _ := conf.Find(s.c, x.Reply.Yi)
	if a := x.Reply.Yi; a != 0 && (where != net || !alloc.May(s.c, s.t, net, k, a, s.now)) {
		t.Errorf("P19.3: %s: %s", text(x), tell(s, m))
	}
	kind := opts.KindOf(x.Reply.Opts)
	if time, timed := opts.Number(x.Reply.Opts, opts.Time); kind == opts.Ack && x.Reply.Yi != 0 {
		granted := lease(x.Reply.Yi, 1, handEnd(s.now, time), k)
		if !timed || time != s.c.Nets[where].Subnets[sub].Time || !x.Keep || x.Lease != granted {
			t.Errorf("P19.4: %s: %s", text(x), tell(s, m))
		}
	}
	if asked := opts.KindOf(m.Opts); asked == opts.Inform && x.Keep || kind == opts.Nak && x.Keep || kind == opts.Offer && x.Keep {
		t.Errorf("P19.5: %s: %s", text(x), tell(s, m))
	}
	if _, e := table.Set(s.t, x.Lease); x.Keep && e != api.OK || !x.Keep && x.Lease != (api.Lease{}) {
		t.Errorf("P19.7: %s: %s", text(x), tell(s, m))
	}
	if !x.Send && text(Answer{Reply: x.Reply, To: x.To}) != text(Answer{}) {
		t.Errorf("a reply that is not sent: %s: %s", text(x), tell(s, m))
	}
}

func TestRandom(t *testing.T) { // P19.1 to P19.5, P19.7: any messages, with any tables
	r := rand.New(rand.NewSource(192))
	words := map[string]int{}
	for range 25000 {
		s, m := randomScene(r), randomMsg(r)
		agrees(t, s, m)
		holds(t, s, m)
		words[handVerdict(s, m).word]++
		if t.Failed() {
			return
		}
	}
	for _, w := range []string{"nothing", "offer", "nak", "grant", "declined", "released", "inform"} {
		if words[w] < 60 {
			t.Errorf("%s only %d times", w, words[w])
		}
	}
}

// requestOf answers the Request that matches an Offer.
func requestOf(m msg.Msg, offer Answer) msg.Msg {
	server, _ := opts.Number(offer.Reply.Opts, opts.Server)
	m = without(without(without(m, 53), 50), 54)
	return with(m, option(53, 3), names(server), wants(offer.Reply.Yi))
}

func TestOfferAndRequest(t *testing.T) { // P19.6: the Request that matches an Offer, at the same time
	r := rand.New(rand.NewSource(193))
	acks, full := 0, 0
	for range 10000 {
		s, m := randomScene(r), randomMsg(r)
		m = with(without(m, 53), option(53, 1))
		m.Ci = 0
		offer := handle(s, m)
		if !offer.Send {
			continue
		}
		a, request := offer.Reply.Yi, requestOf(m, offer)
		if handLease(s.t, a).State == 0 && len(s.t) == api.MaxLeases {
			full++
			ignores(t, s, request)
			continue
		}
		acks++
		ack := handle(s, request)
		k, _ := key.Of(m)
		if opts.KindOf(ack.Reply.Opts) != opts.Ack || ack.Reply.Yi != a || ack.To != offer.To || !ack.Keep || ack.Lease.Addr != a || ack.Lease.Key != k {
			t.Errorf("P19.6: %s: %s", text(ack), tell(s, request))
		}
		if t.Failed() {
			return
		}
	}
	if acks < 1000 || full < 100 {
		t.Errorf("only %d Acks, and %d full tables", acks, full)
	}
}

func TestLife(t *testing.T) { // P19.1, P19.7: a client's whole life, with each lease put into the table
	s, a := at(wide()), spot
	step := func(m msg.Msg, word string) Answer {
		t.Helper()
		x := handle(s, m)
		agrees(t, s, m)
		if got := handVerdict(s, m); got.word != word {
			t.Errorf("%v, not %s: %s", got, word, tell(s, m))
		}
		if x.Keep {
			var e api.Errno
			if s.t, e = table.Set(s.t, x.Lease); e != api.OK {
				t.Fatalf("error %d of %+v", e, x.Lease)
			}
		}
		return x
	}
	offer := step(says("i02", 1), "offer")
	step(requestOf(says("i02", 1), offer), "grant")
	step(selects("i07", a), "nak")
	s.now += 599
	step(selects("i07", a), "nak")
	step(extends("i02", a), "grant")
	s.now += 600
	step(from(a, says("i02", 7)), "nothing") // it has just ended
	step(selects("i07", a), "grant")
	step(reboots("i02", a), "nak")
	step(says("i07", 4, wants(a)), "declined")
	step(selects("i02", a), "nak")
	step(reboots("i07", a), "nak")
	s.now += 300
	step(reboots("i07", a), "nak")
	step(extends("i07", a), "nak")
	step(selects("i02", a), "grant")
	step(from(a, says("i02", 7)), "released")
	step(from(a, says("i02", 7)), "nothing")
	step(reboots("i02", a), "grant")
	step(from(a, says("i02", 8)), "inform")
	if len(s.t) != 1 || s.t[0] != lease(a, 1, s.now+600, "i02") {
		t.Errorf("the table %+v", s.t)
	}
}

func TestFill(t *testing.T) { // P19.1, P19.7: a table that grows until it is full, and what is granted then
	s := scene{wide(), nil, 2, now}
	s.c.Nets[1].Subnets[0].Pools[0].Last = other + 1000
	for i := range 70 {
		k := "iz" + string(rune('0'+i))
		x := handle(s, says(k, 1))
		ack := handle(s, requestOf(says(k, 1), x))
		if want := i < api.MaxLeases; !x.Send || ack.Send != want || ack.Keep != want {
			t.Fatalf("client %d: %s and %s", i, text(x), text(ack))
		}
		if ack.Keep {
			s.t, _ = table.Set(s.t, ack.Lease)
		}
	}
	if len(s.t) != api.MaxLeases {
		t.Errorf("%d leases", len(s.t))
	}
	// The leases have ended, but they are still there: who asks for one of those addresses gets it.
	s.now++
	grants(t, s, selects("i07", other+10), 1, 0, other+10, "i07", s.now+1)
	ignores(t, s, selects("i07", other+999))
	grants(t, s, extends("iz0", other+10), 1, 0, other+10, "iz0", s.now+1)
}

// anyNumber answers any number, and often an edge.
func anyNumber(r *rand.Rand) int {
	return oneOf(r, []int{math.MinInt, math.MinInt + 1, -latest, -1 << 32, -1, 0, 1, 2, 3, 16, 50, 53, 61, 64, 99, 255, 256, 65535, spot, greatest, greatest + 1, latest, latest + 1, math.MaxInt, int(r.Uint64()), r.Intn(300)})
}

// anyMsg answers any message at all.
func anyMsg(r *rand.Rand) msg.Msg {
	m := randomMsg(r)
	for _, f := range fields(&m) {
		if r.Intn(12) == 0 {
			*f = anyNumber(r)
		}
	}
	for range r.Intn(4) {
		m = with(m, option(oneOf(r, []int{50, 52, 53, 54, 55, 61, 82, 118, anyNumber(r)}), make([]byte, oneOf(r, []int{0, 1, 4, 6, 255, 256, 600, 601, 1000}))...))
	}
	if r.Intn(10) == 0 {
		m.Chaddr = make([]byte, r.Intn(20))
	}
	if r.Intn(10) == 0 {
		m.Opts = nil
	}
	return m
}

func TestAnything(t *testing.T) { // P0: any values of all arguments: Handle ends, and does what the words say
	r := rand.New(rand.NewSource(194))
	configs := append(wrongConfigs()[:25], wide(), wide(), wide(), single(), empty(), api.Config{})
	tables := append(wrongTables(), nil, crowd(64), crowd(63), crowd(64), []api.Lease{lease(anyNumber(r), 1, 1, "")})
	for range 20000 {
		s := scene{oneOf(r, configs), oneOf(r, tables), oneOf(r, []int{1, 1, 1, anyNumber(r)}), oneOf(r, []int{now, now, now, anyNumber(r)})}
		if r.Intn(2) == 0 {
			s.t = []api.Lease{{Addr: anyNumber(r), State: anyNumber(r), Expiry: anyNumber(r), Key: oneOf(r, []string{"", "i", "i02", longest(), longest() + "x"})}}
		}
		agrees(t, s, anyMsg(r))
		if t.Failed() {
			return
		}
	}
}

func TestAnyLists(t *testing.T) { // P0: great lists, and whole configurations of nothing
	great := make([]api.Lease, 50000)
	m := says("i02", 1)
	m.Opts = slices.Repeat(m.Opts, 5000)
	ignores(t, scene{wide(), great, 1, now}, says("i02", 1))
	ignores(t, scene{wide(), nil, 1, now}, m)
	ignores(t, scene{api.Config{Nets: make([]api.Net, 50000)}, great, 1, now}, m)
	ignores(t, scene{empty(), nil, 1, now}, says("i02", 1))
	ignores(t, scene{}, msg.Msg{})
}
