package engine

import (
	"math"
	"math/rand"
	"testing"

	"boarder/api"
	"boarder/msg"
	"boarder/opts"
)

// A wish is a message that is answered, or that has a lease stored, in the scene of busy().
type wish struct {
	m msg.Msg
	v verdict
}

// busy answers a scene in which i02 has an address.
func busy() scene {
	return at(wide(), bound(spot, "i02"))
}

// wishes answers one message of each sort that does not get nothing in busy().
func wishes() []wish {
	return []wish{
		{says("i02", 1), verdict{"offer", spot}},
		{says("i07", 1), verdict{"offer", ten + 12}},
		{selects("i02", spot), verdict{"grant", spot}},
		{reboots("i02", spot), verdict{"grant", spot}},
		{extends("i02", spot), verdict{"grant", spot}},
		{selects("i07", ten+12), verdict{"grant", ten + 12}},
		{selects("i07", spot), verdict{"nak", 0}},
		{reboots("i07", spot), verdict{"nak", 0}},
		{extends("i07", spot), verdict{"nak", 0}},
		{selects("i02", nowhere), verdict{"nak", 0}},
		{says("i02", 4, wants(spot)), verdict{"declined", spot}},
		{from(spot, says("i02", 7)), verdict{"released", spot}},
		{from(spot, says("i02", 8)), verdict{"inform", 0}},
	}
}

// A spoiling is one of the reasons for nothing: each of its changes makes it hold in busy(), and no other reason but what follows from it.
type spoiling struct {
	name    string
	changes []func(s *scene, m *msg.Msg)
}

// spoilings answers all reasons for nothing.
func spoilings() []spoiling {
	config, leases, moment, message := spoiling{name: "configuration"}, spoiling{name: "table"}, spoiling{name: "moment"}, spoiling{name: "message"}
	for _, c := range wrongConfigs() {
		config.changes = append(config.changes, func(s *scene, m *msg.Msg) { s.c = c })
	}
	for _, l := range wrongTables() {
		leases.changes = append(leases.changes, func(s *scene, m *msg.Msg) { s.t = l })
	}
	for _, now := range noMoments() {
		moment.changes = append(moment.changes, func(s *scene, m *msg.Msg) { s.now = now })
	}
	for i := range wrongMsgs(msg.Msg{}) {
		message.changes = append(message.changes, func(s *scene, m *msg.Msg) { *m = wrongMsgs(*m)[i] })
	}
	return []spoiling{config, leases, moment, message, noRequests(), noKeys(), noSubnets(), foreigners()}
}

// noMoments answers numbers that are no points in time.
func noMoments() []int {
	return []int{math.MinInt, math.MinInt + now, -latest, -now, -2, -1, latest + 1, latest + 2, 1<<50 + now, 1 << 60, math.MaxInt - 1, math.MaxInt}
}

// noRequests are other numbers as Op.
func noRequests() spoiling {
	all := spoiling{name: "op"}
	for _, op := range []int{0, 2, 3, 17, 128, 129, 254, 255} {
		all.changes = append(all.changes, func(s *scene, m *msg.Msg) { m.Op = op })
	}
	return all
}

// noKeys are messages that have no key, or too long a one.
func noKeys() spoiling {
	bare := func(s *scene, m *msg.Msg) {
		*m = without(*m, 61)
		m.Hlen = 0
	}
	return spoiling{"key", []func(s *scene, m *msg.Msg){
		bare,
		func(s *scene, m *msg.Msg) { bare(s, m); *m = with(*m, option(61)) },
		func(s *scene, m *msg.Msg) { bare(s, m); *m = with(*m, option(61, 7)) },
		func(s *scene, m *msg.Msg) { *m = with(without(*m, 61), option(61, make([]byte, 256)...)) },
		func(s *scene, m *msg.Msg) { *m = with(without(*m, 61), option(61, make([]byte, 600)...)) },
	}}
}

// noSubnets are places where no subnet is.
func noSubnets() spoiling {
	all := spoiling{name: "subnet"}
	for _, iface := range []int{math.MinInt, -1, 0, 5, 99, 100, math.MaxInt} {
		all.changes = append(all.changes, func(s *scene, m *msg.Msg) {
			s.iface = iface
			if m.Ci != 0 {
				// The interface alone is not enough: the message belongs to that address's subnet.
				*m = with(*m, option(118, four(nowhere)...))
			}
		})
	}
	return spoiling{all.name, append(all.changes,
		func(s *scene, m *msg.Msg) { m.Gi = nowhere },
		func(s *scene, m *msg.Msg) { m.Gi = third + 16 },
		func(s *scene, m *msg.Msg) { *m = with(*m, links(nowhere)) },
		func(s *scene, m *msg.Msg) { *m = with(relayed(own, *m), links(second+128)) },
		func(s *scene, m *msg.Msg) { *m = with(*m, option(118, four(second+128)...)) },
	)}
}

// foreigners are other servers that a message is for.
func foreigners() spoiling {
	all := spoiling{name: "server"}
	for _, a := range []int{0, 1, own - 1, own + 1, ten, 1<<24 + own, greatest} {
		all.changes = append(all.changes, func(s *scene, m *msg.Msg) { *m = with(without(*m, 54), names(a)) })
	}
	return all
}

func TestWishes(t *testing.T) { // P19.1: what the other tests of this file spoil
	for _, w := range wishes() {
		if got := handVerdict(busy(), w.m); got != w.v {
			t.Errorf("%v, not %v: %s", got, w.v, tell(busy(), w.m))
		}
		agrees(t, busy(), w.m)
		if x := handle(busy(), w.m); !x.Send && !x.Keep {
			t.Errorf("nothing: %s", tell(busy(), w.m))
		}
	}
}

func TestNothing(t *testing.T) { // P19.1: each of the reasons for nothing alone, for each sort of message
	for _, w := range wishes() {
		for _, p := range spoilings() {
			for i, change := range p.changes {
				s, m := busy(), w.m
				change(&s, &m)
				if !handRefused(s, m) {
					t.Errorf("no reason: %s %d", p.name, i)
				}
				ignores(t, s, m)
			}
		}
	}
}

func TestNothingTogether(t *testing.T) { // P19.1: several of the reasons at once
	r := rand.New(rand.NewSource(191))
	all := spoilings()
	for range 4000 {
		s, m := busy(), oneOf(r, wishes()).m
		for range 1 + r.Intn(4) {
			oneOf(r, oneOf(r, all).changes)(&s, &m)
		}
		if !handRefused(s, m) {
			// One change may undo another, as a server that is named again.
			agrees(t, s, m)
			continue
		}
		ignores(t, s, m)
	}
}

func TestTypes(t *testing.T) { // P19.1: the types that are not listed, none and what is no type
	for kind := range 256 {
		for _, m := range []msg.Msg{says("i02", kind), says("i02", kind, wants(spot)), from(spot, says("i02", kind)), says("i02", kind, names(own), wants(spot)), from(spot, says("i02", kind, wants(spot)))} {
			agrees(t, busy(), m)
			switch kind {
			case 1, 3, 4, 7, 8:
			default:
				ignores(t, busy(), m)
			}
		}
	}
	for _, kind := range []int{1, 3, 4, 7, 8} {
		for _, m := range []msg.Msg{says("i02", kind, names(own), wants(spot)), from(spot, says("i02", kind)), says("i02", kind, wants(spot)), says("i02", kind)} {
			b := byte(kind)
			m = without(m, 53)
			ignores(t, busy(), m)
			for _, data := range [][]byte{{}, {0, b}, {b, 0}, {b, b}, {0, 0, 0, b}, make([]byte, 600)} {
				ignores(t, busy(), with(m, option(53, data...)))
			}
			agrees(t, busy(), with(m, option(53, b)))
		}
	}
}

func TestListed(t *testing.T) { // P19.1: the five types that are listed, each by what it gets
	s := busy()
	offers(t, s, says("i02", opts.Discover), 0, 0, spot)
	grants(t, s, selects("i02", spot), 0, 0, spot, "i02", now+600)
	keeps(t, s, says("i02", opts.Decline, wants(spot)), lease(spot, 3, now+300, "i02"))
	keeps(t, s, from(spot, says("i02", opts.Release)), lease(spot, 2, now, "i02"))
	informs(t, s, from(spot, says("i02", opts.Inform)), 0, 0)
}

func TestServer(t *testing.T) { // P19.1: a message that names this server, none, or one in not four bytes is not foreign
	s := busy()
	for _, w := range wishes() {
		if w.m.Opts[len(w.m.Opts)-1].Code == 50 && opts.KindOf(w.m.Opts) == opts.Request {
			continue // its class would be another one
		}
		for _, data := range [][]byte{{10, 0, 0, 1}, {}, {10}, {10, 0, 0}, {10, 0, 0, 2, 0}, {10, 0, 0, 2, 10, 0, 0, 2}} {
			m := with(w.m, option(54, data...))
			agrees(t, s, m)
			if x := handle(s, m); w.m.Ci == 0 && !x.Send && !x.Keep {
				t.Errorf("nothing: %s", tell(s, m))
			}
		}
	}
	// Which server is this one is what the configuration says.
	s.c.Server = other + 1
	ignores(t, s, selects("i02", spot))
	grants(t, s, says("i02", 3, names(other+1), wants(spot)), 0, 0, spot, "i02", now+600)
	ignores(t, s, says("i02", 4, names(own), wants(spot)))
	keeps(t, s, says("i02", 4, names(other+1), wants(spot)), lease(spot, 3, now+300, "i02"))
}

func TestMoments(t *testing.T) { // P19.1: the first and the last moment are moments
	for _, moment := range []int{0, 1, latest - 1, latest} {
		s := scene{wide(), []api.Lease{lease(spot, 2, 0, "i02")}, 1, moment}
		offers(t, s, says("i02", 1), 0, 0, spot)
		denies(t, s, selects("i02", ten+11), 0, 0)
		informs(t, s, from(spot, says("i02", 8)), 0, 0)
	}
}

func TestHardware(t *testing.T) { // P19.1: a client without the option Client, or with a short one, has the key of its hardware
	k := "h\x01\x02\x00\x00\x00\x00\x07"
	m := without(selects("i02", spot), 61)
	grants(t, at(single()), m, 0, 0, spot, k, now+600)
	grants(t, at(single()), with(m, option(61, 9)), 0, 0, spot, k, now+600)
	m.Hlen, m.Htype = 16, 255
	grants(t, at(single()), m, 0, 0, spot, "h\xff"+string(hardware()), now+600)
	m.Hlen, m.Htype = 1, 0
	grants(t, at(single()), m, 0, 0, spot, "h\x00\x02", now+600)
	m.Hlen = 0
	ignores(t, at(single()), m)
	grants(t, at(single()), with(m, option(61, 9, 9)), 0, 0, spot, "i\x09\x09", now+600)
	k = longest()
	grants(t, at(single()), selects(k, spot), 0, 0, spot, k, now+600)
	keeps(t, at(single(), bound(spot, k)), says(k, 4, wants(spot)), lease(spot, 3, now+300, k))
}

func TestPlace(t *testing.T) { // P19.1: the message's own network is what counts, by each way to say it
	for _, iface := range []int{1, 2, 3, 4, 5, 0, -1} {
		s := scene{wide(), nil, iface, now}
		m := says("i02", 1)
		if want, ok := map[int]int{1: spot, 2: other + 10, 3: spot}[iface]; ok {
			net, _ := handWhere(s.c, want)
			offers(t, s, m, net, 0, want)
		} else {
			ignores(t, s, m)
		}
		offers(t, s, relayed(other+1, m), 1, 0, other+10)
		offers(t, s, from(other+9, m), 1, 0, other+10)
		offers(t, s, with(m, option(118, four(other)...)), 1, 0, other+10)
		offers(t, s, with(m, links(other)), 1, 0, other+10)
		offers(t, s, with(relayed(ten+1, m), links(other)), 1, 0, other+10)
		offers(t, s, relayed(third+1, from(other+9, m)), 0, 0, spot)
		offers(t, s, relayed(long, m), 3, 0, long+1)
		ignores(t, s, relayed(bare+1, m))
	}
}
