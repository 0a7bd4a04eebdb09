package engine

import (
	"testing"

	"boarder/api"
	"boarder/msg"
)

// declines answers the Declines of an address, with what else may stand in them.
func declines(k string, a int) []msg.Msg {
	m := says(k, 4, wants(a))
	return []msg.Msg{m, with(m, names(own)), with(m, option(54, 1, 2, 3)), from(ten+7, m), relayed(third+3, m), with(relayed(own, m), option(82, 1, 1, 7)), flagged(32768, m)}
}

// releases answers the Releases of an address, with what else may stand in them, each by way of a relay, so that it belongs to a subnet whatever the address is.
func releases(k string, a int) []msg.Msg {
	m := relayed(own, from(a, says(k, 7)))
	return []msg.Msg{m, with(m, names(own)), with(m, wants(ten+7)), with(m, wants(0)), with(m, option(82, 1, 1, 7)), relayed(other+1, m), flagged(32768, m)}
}

// givesUp holds Handle against what a client's Declines and Releases of an address have to get: the lease is stored as Declined or as Released, or nothing is done.
func givesUp(t *testing.T, s scene, k string, a int, yes bool) {
	t.Helper()
	for _, m := range declines(k, a) {
		if yes {
			keeps(t, s, m, lease(a, 3, handEnd(s.now, s.c.Probation), k))
		} else {
			ignores(t, s, m)
		}
	}
	for _, m := range releases(k, a) {
		if yes {
			keeps(t, s, m, lease(a, 2, s.now, k))
		} else {
			ignores(t, s, m)
		}
	}
}

func TestGiveUp(t *testing.T) { // P19.1: a Decline and a Release of a lease that is active, and of one that is not, by its client and by others
	for _, x := range []struct {
		state, expiry int
		yes           bool
	}{
		{1, later, true}, {1, now + 1, true}, {1, latest, true}, {1, now, false}, {1, now - 1, false}, {1, 0, false},
		{2, later, false}, {2, now, false}, {2, 0, false}, {2, latest, false},
		{3, later, false}, {3, now, false}, {3, 0, false}, {3, latest, false},
	} {
		for _, a := range []int{spot, ten + 5, ten + 11, ten + 99, second + 10, third + 1, other + 10, nowhere, 1, greatest} {
			s := at(wide(), lease(a, x.state, x.expiry, "i02"))
			givesUp(t, s, "i02", a, x.yes)
			givesUp(t, s, "i07", a, false)
			givesUp(t, s, "i0", a, false)
			givesUp(t, s, "i022", a, false)
		}
	}
}

func TestGiveUpUnknown(t *testing.T) { // P19.1: no lease of the address, though the client has another one
	givesUp(t, at(wide()), "i02", spot, false)
	givesUp(t, at(wide(), bound(ten+12, "i02")), "i02", spot, false)
	givesUp(t, at(wide(), bound(spot-1, "i02"), bound(spot+1, "i02")), "i02", spot, false)
	givesUp(t, at(wide(), bound(spot-1, "i07"), bound(spot, "i02"), bound(spot+1, "i07")), "i02", spot, true)
	givesUp(t, scene{wide(), crowd(63, bound(spot, "i02")), 1, now}, "i02", spot, true)
	givesUp(t, scene{wide(), crowd(64), 1, now}, "i02", spot, false)
}

func TestGiveUpZero(t *testing.T) { // P19.1: a Decline without Wanted and a Release with a Ci of 0 are about the address 0
	for _, m := range []msg.Msg{says("i02", 4), says("i02", 4, option(50)), says("i02", 4, option(50, 10, 0, 0)), says("i02", 4, option(50, 10, 0, 0, 10, 0)), says("i02", 4, wants(0)), from(spot, says("i02", 4))} {
		ignores(t, at(wide(), bound(spot, "i02")), m)
		ignores(t, at(wide()), m)
		ignores(t, at(wide(), bound(0, "i07")), m)
		ignores(t, at(wide(), ended(0, "i02")), m)
		keeps(t, at(wide(), bound(0, "i02"), bound(spot, "i02")), m, lease(0, 3, now+300, "i02"))
	}
	for _, m := range []msg.Msg{says("i02", 7), says("i02", 7, wants(spot)), relayed(own, says("i02", 7))} {
		ignores(t, at(wide(), bound(spot, "i02")), m)
		ignores(t, at(wide()), m)
		ignores(t, at(wide(), bound(0, "i07")), m)
		ignores(t, at(wide(), ended(0, "i02")), m)
		keeps(t, at(wide(), bound(0, "i02"), bound(spot, "i02")), m, lease(0, 2, now, "i02"))
	}
}

func TestGiveUpWhich(t *testing.T) { // P19.1: a Decline is about Wanted, a Release about Ci
	s := at(wide(), bound(spot, "i02"), bound(second+10, "i02"))
	m := from(second+10, says("i02", 4, wants(spot)))
	keeps(t, s, m, lease(spot, 3, now+300, "i02"))
	m.Opts[0] = option(53, 7)
	keeps(t, s, m, lease(second+10, 2, now, "i02"))
}

func TestProbation(t *testing.T) { // P19.1: when a Declined lease ends, with the shortest and the longest Probation
	for _, x := range []struct{ probation, now, until int }{
		{1, 0, 1}, {1, latest - 2, latest - 1}, {1, latest - 1, latest},
		{300, 0, 300}, {300, latest - 301, latest - 1}, {300, latest - 300, latest}, {300, latest - 299, latest}, {300, latest - 1, latest},
		{1 << 31, 0, 1 << 31}, {1 << 31, latest - 1<<31 - 1, latest - 1}, {1 << 31, latest - 1<<31, latest}, {1 << 31, latest - 1<<31 + 1, latest}, {1 << 31, latest - 1, latest},
	} {
		s := scene{wide(), []api.Lease{lease(spot, 1, latest, "i02")}, 1, x.now}
		s.c.Probation = x.probation
		for _, m := range declines("i02", spot) {
			keeps(t, s, m, lease(spot, 3, x.until, "i02"))
		}
		for _, m := range releases("i02", spot) {
			keeps(t, s, m, lease(spot, 2, x.now, "i02"))
		}
		// At the end of time no lease is active.
		s.now = latest
		givesUp(t, s, "i02", spot, false)
	}
}

func TestInform(t *testing.T) { // P19.1, P19.5: an Ack without an address if the client has one, of wherever it is; nothing is stored
	for _, s := range []scene{at(wide()), at(wide(), bound(spot, "i02")), at(wide(), bound(spot, "i07")), at(wide(), declined(spot, "i02")), {wide(), crowd(64), 1, now}} {
		for _, more := range [][]api.Opt{nil, {names(own)}, {wants(spot)}, {option(55, 3)}} {
			m := says("i02", 8, more...)
			ignores(t, s, m)
			ignores(t, s, relayed(second+9, m))
			ignores(t, s, with(m, links(second)))
			informs(t, s, from(spot, m), 0, 0)
			informs(t, s, from(second+99, m), 0, 1)
			informs(t, s, from(third+1, m), 0, 2)
			informs(t, s, from(other+7, m), 1, 0)
			informs(t, s, from(1, m), 3, 2)
			ignores(t, s, from(nowhere, m))
			// A relay, or what the message says of its place, counts for more than Ci, which may be anywhere.
			for _, ci := range []int{1, spot, own, second + 3, other + 7, nowhere, greatest} {
				informs(t, s, from(ci, relayed(second+9, m)), 0, 1)
				informs(t, s, from(ci, with(m, links(third))), 0, 2)
				informs(t, s, from(ci, with(m, option(118, four(bare+9)...))), 2, 0)
				ignores(t, s, from(ci, with(m, links(nowhere))))
			}
		}
	}
}

func TestInformTellsNoTime(t *testing.T) { // P19.1, P19.2: the Ack has neither an address nor a lease time, though it is asked for
	x := handle(at(wide()), from(spot, says("i02", 8, option(55, 51, 3, 1))))
	for _, o := range x.Reply.Opts {
		if o.Code == 51 {
			t.Errorf("a lease time: %s", text(x))
		}
	}
	if !x.Send || x.Keep || x.Reply.Yi != 0 || x.Reply.Ci != spot || x.To.Addr != spot {
		t.Errorf("the Ack: %s", text(x))
	}
}
