package pick

import (
	"math"
	"math/rand"
	"testing"

	"boarder/api"
	"boarder/msg"
)

func TestPlaceExample(t *testing.T) { // P14.1: the chapter's example
	m := blank()
	m.Gi = ten + 1
	places(t, m, ten+1, true)
}

func TestPlaceOrder(t *testing.T) { // P14.1: of all that are present the first counts
	for set := range 1 << 4 {
		for _, backward := range []bool{false, true} {
			m, want, ok := saying(set, backward)
			a := 0
			if ok {
				a = want.own
			}
			places(t, m, a, ok)
		}
	}
}

// saying answers a message with the alternatives of a set, its options in either order, and the one of them that counts.
func saying(set int, backward bool) (msg.Msg, sayer, bool) {
	m, all := blank(), sayers()
	var first sayer
	for i := range all {
		if backward {
			i = len(all) - 1 - i
		}
		if set&(1<<i) != 0 {
			m = all[i].say(m, all[i].own)
		}
	}
	for i := len(all) - 1; i >= 0; i-- {
		if set&(1<<i) != 0 {
			first = all[i]
		}
	}
	return m, first, set != 0
}

func TestPlaceNone(t *testing.T) { // P14.1: without the four it is the interface, whatever else is there
	places(t, msg.Msg{}, 0, false)
	places(t, blank(), 0, false)
	m := blank()
	m.Yi, m.Si, m.Xid, m.Secs, m.Flags, m.Hops = ofCi, ofGi, ofLink, 9, 9, 9
	m.Chaddr[3] = 10
	for _, code := range []int{0, 1, 3, 5, 50, 51, 52, 54, 61, 81, 83, 117, 119, 255, 256 + 82, 256 + 118, -82, -118, 1<<32 + 82, 1<<32 + 118, math.MinInt, math.MaxInt} {
		m = with(m, code, four(ofSubnet)...)
	}
	places(t, m, 0, false)
}

func TestPlaceNumbers(t *testing.T) { // P14.1: Gi and Ci, if they are not 0, addresses or not
	for _, n := range numbersAround() {
		m := blank()
		m.Gi = n
		places(t, m, n, n != 0)
		m.Ci = ofCi
		if n == 0 {
			places(t, m, ofCi, true)
		} else {
			places(t, m, n, true)
		}
		m.Gi, m.Ci = 0, n
		places(t, m, n, n != 0)
	}
}

func TestPlaceLink(t *testing.T) { // P14.1: what an option 82 selects, 0 too, and what selects nothing
	for _, b := range relayed() {
		m := with(blank(), 82, b...)
		a, ok := handLink(b)
		places(t, m, a, ok)
		m.Gi = ofGi
		if !ok {
			a = ofGi
		}
		places(t, m, a, true)
	}
	m := with(blank(), 82, 5, 4, 0, 0, 0, 0)
	places(t, m, 0, true)
	m.Gi, m.Ci = ofGi, ofCi
	places(t, m, 0, true)
	places(t, with(m, 118, four(ofSubnet)...), 0, true)
}

func TestPlaceLinkTwice(t *testing.T) { // P14.1: the first option 82 counts, with its first link selection
	m := with(blank(), 82, 5, 4, 10, 0, 0, 128, 5, 4, 20, 0, 0, 1)
	places(t, m, ofLink, true)
	places(t, with(m, 82, selecting(ofCi)...), ofLink, true)
	m = with(with(blank(), 82, 1, 1, 7), 82, selecting(ofLink)...)
	places(t, m, 0, false)
	m.Ci = ofCi
	places(t, m, ofCi, true)
	places(t, with(blank(), 82, 5, 0, 5, 4, 10, 0, 0, 128), 0, false)
}

func TestPlaceSubnet(t *testing.T) { // P14.1: the number of the first option Subnet, if it is not 0
	for _, b := range subnetted() {
		m := with(blank(), 118, b...)
		n, _ := handNumber(b)
		places(t, m, n, n != 0)
		m.Ci = ofCi
		if n == 0 {
			n = ofCi
		}
		places(t, m, n, true)
	}
	m := with(blank(), 118, four(ofSubnet)...)
	places(t, with(m, 118, four(ofLink)...), ofSubnet, true)
	for _, b := range [][]byte{nil, {1}, {0, 0, 0, 0}, {0, 0, 0, 0, 1}} {
		places(t, with(with(blank(), 118, b...), 118, four(ofSubnet)...), 0, false)
	}
}

func TestPlaceWrong(t *testing.T) { // P14.1: of a message that is not valid, too
	for _, s := range sayers() {
		for i, m := range spoilt(s.say(blank(), s.own)) {
			if a, ok := Place(m); a != s.own || !ok {
				t.Errorf("%s of the wrong message %d: %d, %v", s.name, i, a, ok)
			}
		}
	}
	for _, m := range spoilt(blank()) {
		places(t, m, 0, false)
	}
	places(t, msg.Msg{Ci: ofCi}, ofCi, true)
	places(t, msg.Msg{Gi: ofGi, Ci: ofCi}, ofGi, true)
	places(t, msg.Msg{Opts: []api.Opt{{Code: 118, Data: four(ofSubnet)}}}, ofSubnet, true)
}

func TestPlaceRandom(t *testing.T) { // P14.1
	r := rand.New(rand.NewSource(141))
	kinds := [5]int{}
	for range 20000 {
		m := randomMsg(r)
		want, ok := handPlace(m)
		places(t, m, want, ok)
		_, link := handLink(handData(m, 82))
		n, _ := handNumber(handData(m, 118))
		switch {
		case link:
			kinds[0]++
		case m.Gi != 0:
			kinds[1]++
		case n != 0:
			kinds[2]++
		case m.Ci != 0:
			kinds[3]++
		default:
			kinds[4]++
		}
	}
	for i, n := range kinds {
		if n < 1000 {
			t.Errorf("too few messages of the kind %d: %d", i, n)
		}
	}
}
