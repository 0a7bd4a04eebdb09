package class

import (
	"bytes"
	"math"
	"math/rand"
	"slices"
	"testing"

	"boarder/api"
	"boarder/msg"
)

func TestConstants(t *testing.T) { // P16.1: the classes' numbers
	if Wrong != 0 || Selecting != 1 || Reboot != 2 || Extend != 3 {
		t.Errorf("%d, %d, %d, %d", Wrong, Selecting, Reboot, Extend)
	}
}

func TestExample(t *testing.T) { // P16.1: the chapter's example
	holds(t, msg.Msg{Opts: []api.Opt{{Code: 53, Data: []byte{3}}, {Code: 54, Data: []byte{10, 0, 0, 1}}, {Code: 50, Data: []byte{10, 0, 0, 7}}}}, Selecting, 167772167)
}

func TestCombinations(t *testing.T) { // P16.1: each row of the table, and each of the eight combinations
	for _, s := range samples() {
		holds(t, s.m, s.class, s.about)
	}
}

func TestOrders(t *testing.T) { // P16.1: the options in any order, and others between
	others := []api.Opt{{Code: 12}, {Code: 51, Data: four(600)}, {Code: 118, Data: four(held)}}
	for _, s := range samples() {
		m := s.m
		for _, l := range orders(m.Opts) {
			m.Opts = l
			holds(t, m, s.class, s.about)
			for at := range len(l) + 1 {
				m.Opts = slices.Insert(slices.Clone(l), at, others...)
				holds(t, m, s.class, s.about)
			}
		}
	}
}

// orders answers a list in all orders.
func orders(l []api.Opt) [][]api.Opt {
	if len(l) == 0 {
		return [][]api.Opt{nil}
	}
	var all [][]api.Opt
	for _, o := range orders(l[1:]) {
		for at := range len(l) {
			all = append(all, slices.Insert(slices.Clone(o), at, l[0]))
		}
	}
	return all
}

func TestOtherTypes(t *testing.T) { // P16.1: a message that is no Request is Wrong, whatever else it says
	for _, s := range samples() {
		bare := s.m
		bare.Opts = s.m.Opts[1:]
		holds(t, bare, Wrong, 0)
		for _, b := range otherTypes() {
			holds(t, with(bare, 53, b...), Wrong, 0)
			holds(t, ahead(bare, 53, b...), Wrong, 0)
			holds(t, ahead(s.m, 53, b...), Wrong, 0)
			holds(t, with(s.m, 53, b...), s.class, s.about)
		}
		for _, code := range []int{0, 52, 54, 55, 255, -53, 256 + 53, 1<<32 + 53, math.MinInt, math.MaxInt} {
			holds(t, with(bare, code, 3), Wrong, 0)
		}
	}
}

func TestWidths(t *testing.T) { // P16.1: Server and Wanted with other than four bytes are absent, each alone and both
	for _, b := range otherWidths() {
		server, want := with(request(), 54, b...), with(request(), 50, b...)
		holds(t, server, Wrong, 0)
		holds(t, from(server, held), Extend, held)
		holds(t, with(server, 50, four(wanted)...), Reboot, wanted)
		holds(t, from(with(server, 50, four(wanted)...), held), Wrong, 0)
		holds(t, want, Wrong, 0)
		holds(t, from(want, held), Extend, held)
		holds(t, with(want, 54, four(theirs)...), Wrong, 0)
		holds(t, from(with(want, 54, four(theirs)...), held), Wrong, 0)
		for _, c := range otherWidths() {
			holds(t, with(server, 50, c...), Wrong, 0)
			holds(t, from(with(server, 50, c...), held), Extend, held)
		}
	}
}

func TestZero(t *testing.T) { // P16.1: the number 0 in four bytes is present
	zero := with(request(), 50, 0, 0, 0, 0)
	holds(t, zero, Reboot, 0)
	holds(t, from(zero, held), Wrong, 0)
	holds(t, with(zero, 54, four(theirs)...), Selecting, 0)
	holds(t, with(zero, 54, 0, 0, 0, 0), Selecting, 0)
	server := with(request(), 54, 0, 0, 0, 0)
	holds(t, server, Wrong, 0)
	holds(t, from(server, held), Wrong, 0)
	holds(t, with(server, 50, four(wanted)...), Selecting, wanted)
	holds(t, from(with(server, 50, four(wanted)...), held), Wrong, 0)
}

func TestTwice(t *testing.T) { // P16.1: of two options of a code the first counts, whatever the second is
	for _, b := range append(otherWidths(), four(0), four(held)) {
		first := with(with(request(), 50, four(wanted)...), 50, b...)
		holds(t, first, Reboot, wanted)
		holds(t, from(first, held), Wrong, 0)
		holds(t, with(with(first, 54, four(theirs)...), 54, b...), Selecting, wanted)
		holds(t, with(with(request(), 54, four(theirs)...), 54, b...), Wrong, 0)
	}
	for _, b := range otherWidths() {
		want := with(with(request(), 50, b...), 50, four(wanted)...)
		server := with(with(request(), 54, b...), 54, four(theirs)...)
		holds(t, want, Wrong, 0)
		holds(t, from(want, held), Extend, held)
		holds(t, with(want, 54, four(theirs)...), Wrong, 0)
		holds(t, server, Wrong, 0)
		holds(t, from(server, held), Extend, held)
		holds(t, with(server, 50, four(wanted)...), Reboot, wanted)
		holds(t, from(with(with(server, 50, b...), 50, four(wanted)...), held), Extend, held)
	}
}

func TestCi(t *testing.T) { // P16.1: a Ci of any number but 0 is present, an address or not
	for _, n := range numbers() {
		for _, s := range samples() {
			if (n == 0) != (s.m.Ci == 0) {
				continue
			}
			about := s.about
			if s.class == Extend {
				about = n
			}
			holds(t, from(s.m, n), s.class, about)
		}
	}
}

func TestAddresses(t *testing.T) { // P16.1: About is what is wanted for Selecting and Reboot, of any address and whichever server is named
	for _, a := range addresses() {
		holds(t, with(request(), 50, four(a)...), Reboot, a)
		for _, server := range addresses() {
			named := with(with(request(), 50, four(a)...), 54, four(server)...)
			holds(t, named, Selecting, a)
			holds(t, from(named, held), Wrong, 0)
			if a != 0 {
				holds(t, from(named, a), Wrong, 0)
			}
		}
	}
}

func TestRest(t *testing.T) { // P16.1: nothing else of a message has an effect
	for _, s := range samples() {
		for _, n := range numbers() {
			m := s.m
			for _, field := range []*int{&m.Op, &m.Htype, &m.Hlen, &m.Hops, &m.Xid, &m.Secs, &m.Flags, &m.Yi, &m.Si, &m.Gi} {
				was := *field
				*field = n
				holds(t, m, s.class, s.about)
				*field = was
			}
		}
		for _, code := range []int{math.MinInt, -54, -50, -1, 0, 1, 3, 49, 51, 52, 55, 61, 82, 118, 254, 255, 256 + 50, 256 + 54, 1<<32 + 50, 1<<32 + 54, math.MaxInt} {
			for _, b := range [][]byte{nil, {3}, four(wanted), make([]byte, 601)} {
				holds(t, with(s.m, code, b...), s.class, s.about)
				holds(t, ahead(s.m, code, b...), s.class, s.about)
			}
		}
		m := s.m
		for _, n := range []int{0, 1, 15, 17, 1000} {
			m.Chaddr = bytes.Repeat([]byte{9}, n)
			holds(t, m, s.class, s.about)
		}
	}
}

func TestNothing(t *testing.T) { // P16.1, R1: messages of nothing
	holds(t, msg.Msg{}, Wrong, 0)
	holds(t, plain(), Wrong, 0)
	for _, n := range numbers() {
		holds(t, from(plain(), n), Wrong, 0)
		holds(t, msg.Msg{Op: n, Htype: n, Hlen: n, Hops: n, Xid: n, Secs: n, Flags: n, Ci: n, Yi: n, Si: n, Gi: n}, Wrong, 0)
	}
}

func TestRandom(t *testing.T) { // P16.1, P16.3: a message of the class Selecting names the server that it selects
	r := rand.New(rand.NewSource(161))
	counts := [4]int{}
	for range 30000 {
		m := randomMsg(r)
		class, about := handClass(m)
		holds(t, m, class, about)
		counts[class]++
		server, named := handNumber(m, 54)
		if Of(m) == Selecting && (!named || Foreign(m, server) || !Foreign(m, server+1)) {
			t.Fatalf("it selects no server: %s", tell(m))
		}
	}
	for class, n := range counts {
		if n < 1500 {
			t.Errorf("too few of class %d: %d", class, n)
		}
	}
}

func TestLong(t *testing.T) { // R1: calls end for long messages, too
	long := slices.Repeat([]api.Opt{{Code: 12, Data: []byte{1}}}, 1<<18)
	for _, s := range samples() {
		m := s.m
		m.Chaddr = make([]byte, 1<<18)
		m.Opts = slices.Concat(long, m.Opts, long)
		says(t, m, s.class, s.about)
		tells(t, m, mine, s.named)
	}
	for _, code := range []int{50, 53, 54} {
		says(t, with(request(), code, make([]byte, 1<<18)...), Wrong, 0)
		tells(t, with(request(), code, make([]byte, 1<<18)...), mine, false)
	}
}
