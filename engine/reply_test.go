package engine

import (
	"fmt"
	"testing"

	"boarder/api"
	"boarder/dest"
	"boarder/msg"
)

// tells holds the options of a reply, but for the Client at their end, against those that it has to have.
func tells(t *testing.T, x Answer, want ...api.Opt) {
	t.Helper()
	want = append(want, option(61, '0', '2'))
	if got := fmt.Sprint(x.Reply.Opts); !x.Send || got != fmt.Sprint(want) {
		t.Errorf("the options %s, not %v: %s", got, want, text(x))
	}
}

// The options Mask, Router and Time of the first network's subnets, as wide() has them.
func ofFirst() []api.Opt {
	return []api.Opt{option(51, 0, 0, 2, 88), option(1, 255, 255, 255, 0), option(3, 10, 0, 0, 1)}
}

func ofSecond() []api.Opt {
	return []api.Opt{option(51, 0, 0, 0, 77), option(1, 255, 255, 255, 128), option(3, 10, 0, 1, 1)}
}

func ofThird() []api.Opt {
	return []api.Opt{option(51, 0, 0, 0, 9), option(1, 255, 255, 255, 240)}
}

// starts answers the options Kind and Server of a reply, and further ones.
func starts(kind byte, more ...api.Opt) []api.Opt {
	return append([]api.Opt{option(53, kind), option(54, 10, 0, 0, 1)}, more...)
}

func TestSubnetOfOffer(t *testing.T) { // P19.2: an Offer is for the subnet that contains the address, which is another one of the network than the message's
	tells(t, handle(at(wide()), says("i02", 1)), starts(2, ofFirst()...)...)
	tells(t, handle(at(wide()), says("i02", 1, wants(second+11))), starts(2, ofSecond()...)...)
	for _, m := range []msg.Msg{relayed(third+1, says("i02", 1)), from(third+1, says("i02", 1)), says("i02", 1, option(118, four(second)...))} {
		tells(t, handle(at(wide()), m), starts(2, ofFirst()...)...)
		tells(t, handle(at(wide(), bound(second+10, "i02")), m), starts(2, ofSecond()...)...)
	}
	tells(t, handle(scene{wide(), nil, 3, now}, says("i02", 1)), starts(2, ofFirst()...)...)
}

func TestSubnetOfAck(t *testing.T) { // P19.2, P19.4: so is an Ack that grants one, and its lease has the time of that subnet
	for _, m := range []msg.Msg{selects("i02", second+10), relayed(third+1, selects("i02", second+10)), relayed(own, reboots("i02", second+10)), relayed(own, extends("i02", second+10)), extends("i02", second+10)} {
		x := handle(at(wide(), lease(second+10, 2, 0, "i02")), m)
		tells(t, x, starts(5, ofSecond()...)...)
		if x.Reply.Yi != second+10 || x.Lease != lease(second+10, 1, now+77, "i02") || !x.Keep {
			t.Errorf("the lease: %s", text(x))
		}
	}
	x := handle(at(wide()), relayed(third+1, selects("i02", spot)))
	tells(t, x, starts(5, ofFirst()...)...)
	if x.Lease != lease(spot, 1, now+600, "i02") {
		t.Errorf("the lease: %s", text(x))
	}
}

func TestSubnetOfInform(t *testing.T) { // P19.2: the Ack to an Inform is for the message's own subnet, whatever the client's address is
	m := from(spot, says("i02", 8))
	tells(t, handle(at(wide()), m), starts(5, ofFirst()[1:]...)...)
	tells(t, handle(at(wide()), relayed(second+1, m)), starts(5, ofSecond()[1:]...)...)
	tells(t, handle(at(wide()), relayed(third+1, m)), starts(5, ofThird()[1:]...)...)
	tells(t, handle(at(wide()), from(nowhere, with(m, option(118, four(third)...)))), starts(5, ofThird()[1:]...)...)
}

func TestOptionsOfNak(t *testing.T) { // P19.2: a Nak tells nothing of any subnet
	for _, m := range []msg.Msg{selects("i02", nowhere), relayed(third+1, selects("i02", ten+99)), relayed(second, extends("i02", other+10))} {
		x := handle(at(wide()), m)
		tells(t, x, starts(6)...)
		if x.Reply.Yi != 0 || x.Reply.Ci != 0 || x.Keep || x.Lease != (api.Lease{}) {
			t.Errorf("the Nak: %s", text(x))
		}
	}
}

func TestAskedFor(t *testing.T) { // P19.2: a reply has what the client asks for
	m := says("i02", 1, option(55, 3))
	x := handle(at(wide()), m)
	tells(t, x, starts(2, ofFirst()[0], ofFirst()[2])...)
	m.Opts[0] = option(53, 3)
	tells(t, handle(at(wide()), with(m, names(own), wants(spot))), starts(5, ofFirst()[0], ofFirst()[2])...)
}

func TestRelayed(t *testing.T) { // P19.2: by a relay, with the option 82 and without it: the relay gets all replies, with what it sent
	for _, more := range [][]api.Opt{nil, {option(82)}, {option(82, 1, 1, 7)}, {links(ten)}, {links(third)}, {option(82, 5, 3, 1, 2, 3)}, {option(82, 9)}, {option(82, make([]byte, 600)...)}} {
		for _, gi := range []int{ten + 200, own, second + 3, third + 1} {
			for kind, m := range map[int]msg.Msg{2: says("i02", 1), 5: selects("i02", spot), 6: selects("i02", nowhere), 7: from(spot, says("i02", 8))} {
				for _, flags := range []int{0, 1, 32768} {
					s, m := at(wide()), flagged(flags, relayed(gi, with(m, more...)))
					x := handle(s, m)
					agrees(t, s, m)
					last := x.Reply.Opts[len(x.Reply.Opts)-1]
					if !x.Send || x.To != (dest.Dest{Addr: gi, Port: 67}) || x.Reply.Gi != gi {
						t.Errorf("%s: %s", text(x), tell(s, m))
					}
					if len(more) > 0 && fmt.Sprint(last) != fmt.Sprint(more[0]) || len(more) == 0 && last.Code != 61 {
						t.Errorf("the last option of %s: %s", text(x), tell(s, m))
					}
					if want := flags | 32768; kind == 6 && x.Reply.Flags != want {
						t.Errorf("the flags of %s: %s", text(x), tell(s, m))
					}
				}
			}
		}
	}
	// What the relay selects counts for more than where it is.
	m := with(relayed(other+1, says("i02", 1)), links(third))
	x := handle(at(wide()), m)
	if x.Reply.Yi != spot || x.To != (dest.Dest{Addr: other + 1, Port: 67}) {
		t.Errorf("the Offer by another link: %s", text(x))
	}
}

func TestDestinations(t *testing.T) { // P19.2: where each reply goes: with Gi, with Ci, with the broadcast flag, with all and with none of them
	everyone := dest.Dest{Addr: greatest, Port: 68}
	raw := dest.Dest{Addr: spot, Port: 68, Raw: true}
	relay := dest.Dest{Addr: second + 9, Port: 67}
	client := dest.Dest{Addr: ten + 7, Port: 68}
	holder := dest.Dest{Addr: spot, Port: 68}
	s := at(wide(), bound(spot, "i02"))
	discover, request, nak := says("i02", 1), selects("i02", spot), selects("i02", ten+99)
	extend, no, inform := extends("i02", spot), extends("i07", spot), from(spot, says("i02", 8))
	for i, x := range []struct {
		m    msg.Msg
		want dest.Dest
	}{
		{discover, raw}, {flagged(32767, discover), raw}, {flagged(32768, discover), everyone}, {flagged(65535, discover), everyone},
		{from(ten+7, discover), client}, {from(ten+7, flagged(32768, discover)), client}, {relayed(second+9, discover), relay}, {relayed(second+9, from(ten+7, flagged(32768, discover))), relay},
		{request, raw}, {flagged(32767, request), raw}, {flagged(32768, request), everyone}, {flagged(65535, request), everyone},
		{relayed(second+9, request), relay}, {relayed(second+9, flagged(32768, request)), relay},
		{reboots("i02", spot), raw}, {flagged(32768, reboots("i02", spot)), everyone}, {relayed(second+9, reboots("i02", spot)), relay},
		{extend, holder}, {flagged(32768, extend), holder}, {relayed(second+9, extend), relay}, {relayed(second+9, flagged(32768, extend)), relay},
		{nak, everyone}, {flagged(32768, nak), everyone}, {relayed(second+9, nak), relay}, {relayed(second+9, flagged(32768, nak)), relay},
		{no, everyone}, {flagged(32768, no), everyone}, {relayed(second+9, no), relay}, {relayed(second+9, flagged(32768, no)), relay},
		{inform, holder}, {flagged(32768, inform), holder}, {relayed(second+9, inform), relay}, {from(nowhere, with(inform, links(ten))), dest.Dest{Addr: nowhere, Port: 68}},
	} {
		if got := handle(s, x.m); !got.Send || got.To != x.want {
			t.Errorf("%d: to %+v, not %+v: %s", i, got.To, x.want, tell(s, x.m))
		}
	}
}

func TestLongestReply(t *testing.T) { // P19.2: the longest reply there may be can be written, and is sent
	k := longest()
	data := make([]byte, 600)
	for _, m := range []msg.Msg{says(k, 1, option(82, data...)), selects(k, spot), reboots(k, spot), extends(k, spot), from(spot, says(k, 8)), selects(k, nowhere)} {
		m = with(without(m, 82), option(82, data...))
		s := at(wide(), lease(spot, 2, 0, k))
		x := handle(s, m)
		agrees(t, s, m)
		b, e := msg.Write(x.Reply)
		if again, f := msg.Read(b); !x.Send || e != api.OK || f != api.OK || text(Answer{Reply: again}) != text(Answer{Reply: x.Reply}) {
			t.Errorf("not written: %s", text(x))
		}
	}
	// With the key of the hardware the option Client has at most one byte.
	m := with(without(selects("i02", spot), 61), option(61, 7), option(82, data...))
	if x := handle(at(wide()), m); !x.Send || !x.Keep {
		t.Errorf("nothing: %s", tell(at(wide()), m))
	}
}
