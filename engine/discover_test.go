package engine

import (
	"math"
	"testing"

	"boarder/api"
	"boarder/msg"
	"boarder/opts"
)

func TestExample(t *testing.T) { // P19.1, P19.2: the chapter's example, written out
	s := scene{single(), nil, 1, 5}
	discover, request := says("i02", opts.Discover), selects("i02", 10<<24+10)
	rest := []api.Opt{option(54, 10, 0, 0, 1), option(51, 0, 0, 2, 88), option(1, 255, 255, 255, 0), option(3, 10, 0, 0, 1), option(61, '0', '2')}
	offer := handle(s, discover)
	want := msg.Msg{Op: 2, Htype: 1, Hlen: 6, Xid: 77, Yi: 10<<24 + 10, Chaddr: hardware(), Opts: append([]api.Opt{option(53, 2)}, rest...)}
	if text(Answer{Reply: offer.Reply}) != text(Answer{Reply: want}) {
		t.Errorf("%+v, not %+v", offer.Reply, want)
	}
	if !offer.Send || offer.Keep || offer.To.Addr != 10<<24+10 || offer.To.Port != 68 || !offer.To.Raw || offer.Lease != (api.Lease{}) {
		t.Errorf("the Offer: %s", text(offer))
	}
	ack := handle(s, request)
	want.Opts[0] = option(53, 5)
	if text(Answer{Reply: ack.Reply}) != text(Answer{Reply: want}) {
		t.Errorf("%+v, not %+v", ack.Reply, want)
	}
	if !ack.Send || !ack.Keep || ack.To != offer.To || ack.Lease != (api.Lease{Addr: 10<<24 + 10, State: api.Bound, Expiry: 605, Key: "i02"}) {
		t.Errorf("the Ack: %s", text(ack))
	}
	s.t, s.now = []api.Lease{ack.Lease}, 9
	keeps(t, s, says("i02", opts.Decline, wants(10<<24+10)), api.Lease{Addr: 10<<24 + 10, State: api.Declined, Expiry: 309, Key: "i02"})
	keeps(t, s, says("i02", opts.Decline, names(own), wants(10<<24+10)), api.Lease{Addr: 10<<24 + 10, State: api.Declined, Expiry: 309, Key: "i02"})
}

func TestNakWrittenOut(t *testing.T) { // P19.2: a Nak and the Ack to an Inform, written out
	s := scene{single(), nil, 1, 5}
	nak := handle(s, selects("i02", nowhere))
	want := msg.Msg{Op: 2, Htype: 1, Hlen: 6, Xid: 77, Chaddr: hardware(), Opts: []api.Opt{option(53, 6), option(54, 10, 0, 0, 1), option(61, '0', '2')}}
	if text(Answer{Reply: nak.Reply}) != text(Answer{Reply: want}) || !nak.Send || nak.Keep || nak.Lease != (api.Lease{}) || nak.To.Addr != greatest || nak.To.Port != 68 || nak.To.Raw {
		t.Errorf("the Nak: %s", text(nak))
	}
	ack := handle(s, from(ten+99, says("i02", opts.Inform)))
	want.Ci, want.Opts = ten+99, []api.Opt{option(53, 5), option(54, 10, 0, 0, 1), option(1, 255, 255, 255, 0), option(3, 10, 0, 0, 1), option(61, '0', '2')}
	if text(Answer{Reply: ack.Reply}) != text(Answer{Reply: want}) || !ack.Send || ack.Keep || ack.Lease != (api.Lease{}) || ack.To.Addr != ten+99 || ack.To.Port != 68 || ack.To.Raw {
		t.Errorf("the Ack: %s", text(ack))
	}
}

func TestWanted(t *testing.T) { // P19.1: an Offer of the address that is wanted, if it may be had, or else of another one
	for _, x := range []struct{ k, want, offered int }{
		{2, 0, spot},
		{2, ten + 12, ten + 12},
		{2, second + 11, second + 11},
		{2, spot, spot},
		{2, ten + 11, spot},    // reserved for another
		{2, second + 5, spot},  // reserved for another, in no pool
		{2, ten + 13, spot},    // in no pool
		{2, ten, spot},         // the base
		{2, ten + 255, spot},   // the last address
		{2, own, spot},         // the server's
		{2, other + 10, spot},  // in another network
		{2, long + 9, spot},    // in another network
		{2, nowhere, spot},     // in none
		{2, greatest, spot},    // 255.255.255.255
		{1, ten + 12, ten + 5}, // its own reservation comes first
		{3, 0, ten + 11},
		{4, spot, second + 5},
	} {
		k := "i0" + string(rune('0'+x.k))
		net, sub := handWhere(wide(), x.offered)
		offers(t, at(wide()), says(k, 1, wants(x.want)), net, sub, x.offered)
	}
	offers(t, at(wide()), says("i02", 1), 0, 0, spot)
	for _, data := range [][]byte{{}, {10}, {10, 0, 0}, {10, 0, 0, 12, 0}, {10, 0, 0, 12, 10, 0, 0, 12}} { // no number
		offers(t, at(wide()), says("i02", 1, option(50, data...)), 0, 0, spot)
	}
}

func TestWantedOfOthers(t *testing.T) { // P19.1: what is leased, and when it may be had again
	for _, x := range []struct {
		l       api.Lease
		offered int
	}{
		{bound(ten+12, "i07"), spot},
		{lease(ten+12, 1, now+1, "i07"), spot},
		{ended(ten+12, "i07"), ten + 12},
		{lease(ten+12, 1, 0, "i07"), ten + 12},
		{lease(ten+12, 2, later, "i07"), ten + 12},
		{lease(ten+12, 2, 0, "i07"), ten + 12},
		{declined(ten+12, "i07"), spot},
		{lease(ten+12, 3, now+1, "i07"), spot},
		{lease(ten+12, 3, now, "i07"), ten + 12},
		{declined(ten+12, "i02"), spot},
		{lease(ten+12, 3, now, "i02"), ten + 12},
		{bound(ten+12, "i02"), ten + 12},
		{bound(second+11, "i02"), second + 11}, // what the client has, not what it wants
		{ended(second+11, "i02"), second + 11}, // what it had before comes ahead of that, too
		{bound(other+11, "i02"), ten + 12},     // but not what it has in another network
	} {
		net, sub := handWhere(wide(), x.offered)
		offers(t, at(wide(), x.l), says("i02", 1, wants(ten+12)), net, sub, x.offered)
	}
}

func TestNoChoice(t *testing.T) { // P19.1: nothing, if there is no address to be had
	m := says("i02", 1, wants(ten+12))
	taken := []api.Lease{bound(spot, "i07"), bound(ten+12, "i08"), declined(second+10, "i02"), bound(second+11, "i09")}
	ignores(t, at(wide(), taken...), m)
	for i, l := range taken {
		rest := append(append([]api.Lease{}, taken[:i]...), taken[i+1:]...)
		net, sub := handWhere(wide(), l.Addr)
		offers(t, at(wide(), rest...), m, net, sub, l.Addr)
	}
	// Those for whom an address is reserved get it still.
	offers(t, at(wide(), taken...), says("i01", 1), 0, 0, ten+5)
	offers(t, at(wide(), taken...), says("i03", 1), 0, 0, ten+11)
	offers(t, at(wide(), taken...), says("i04", 1), 0, 1, second+5)
	ignores(t, at(wide(), append(taken, bound(ten+5, "i07"))...), says("i01", 1))
	// A network without pools, and a client that has an address that it may not get.
	ignores(t, scene{wide(), nil, 4, now}, says("i01", 1))
	ignores(t, at(wide(), bound(ten+99, "i02")), m)
	ignores(t, at(wide(), bound(ten+11, "i02")), m)
	offers(t, at(wide(), ended(ten+99, "i02")), m, 0, 0, ten+12)
}

func TestOffersInFullTable(t *testing.T) { // P19.1: an Offer stores nothing, so it needs no room
	s := scene{wide(), crowd(64), 1, now}
	offers(t, s, says("i02", 1), 0, 0, spot)
	offers(t, s, says("i01", 1), 0, 0, ten+5)
}

func TestOfferOfWideNumbers(t *testing.T) { // P19.1, P19.2: the least and the greatest addresses
	s := at(wide())
	m := relayed(greatest-3, says("i02", 1))
	offers(t, s, m, 3, 0, long+1)
	offers(t, s, with(m, wants(greatest-1)), 3, 1, greatest-1)
	offers(t, s, with(m, wants(greatest)), 3, 0, long+1)
	offers(t, s, with(m, wants(1)), 3, 2, 1)
	offers(t, s, with(m, wants(0)), 3, 0, long+1)
	offers(t, s, with(m, wants(long+1<<24-2)), 3, 0, long+1<<24-2)
	offers(t, s, relayed(1, says("i02", 1, wants(2))), 3, 2, 2)
	ignores(t, scene{wide(), nil, math.MaxInt, now}, says("i02", 1))
}
