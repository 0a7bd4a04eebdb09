package class

import (
	"math"
	"math/rand"
	"testing"

	"boarder/msg"
)

func TestForeignClasses(t *testing.T) { // P16.2: messages of every class: a server that is named is the one that is meant
	for _, s := range samples() {
		foreign(t, s.m, theirs, false)
		for _, server := range numbers() {
			foreign(t, s.m, server, s.named && server != theirs)
		}
	}
}

func TestForeignTypes(t *testing.T) { // P16.2: the type has no effect, nor has its absence
	types := append(otherTypes(), []byte{3})
	for _, b := range types {
		m := with(plain(), 53, b...)
		foreign(t, m, mine, false)
		foreign(t, with(m, 54, four(mine)...), mine, false)
		foreign(t, with(m, 54, four(theirs)...), mine, true)
		foreign(t, ahead(m, 54, four(theirs)...), mine, true)
		foreign(t, ahead(m, 54, 9), mine, false)
	}
	foreign(t, plain(), mine, false)
	foreign(t, with(plain(), 54, four(mine)...), mine, false)
	foreign(t, with(plain(), 54, four(theirs)...), mine, true)
	foreign(t, msg.Msg{}, 0, false)
	foreign(t, msg.Msg{}, mine, false)
}

func TestForeignNumbers(t *testing.T) { // P16.2: any server that is named, and any that is meant
	for _, named := range addresses() {
		for _, server := range numbers() {
			foreign(t, with(request(), 54, four(named)...), server, named != server)
		}
		for _, server := range []int{named - 1, named + 1, named ^ 1<<8, named ^ 1<<16, named ^ 1<<24, named + 1<<32, named - 1<<32, -named - 1} {
			foreign(t, with(request(), 54, four(named)...), server, true)
		}
	}
}

func TestForeignWidths(t *testing.T) { // P16.2: a Server with other than four bytes names none
	for _, b := range otherWidths() {
		for _, server := range append(numbers(), 167772167) {
			foreign(t, with(request(), 54, b...), server, false)
		}
		// Of two the first counts.
		foreign(t, with(with(request(), 54, b...), 54, four(theirs)...), mine, false)
		foreign(t, with(with(request(), 54, four(theirs)...), 54, b...), mine, true)
		foreign(t, with(with(request(), 54, four(mine)...), 54, b...), mine, false)
	}
	both := with(with(request(), 54, four(theirs)...), 54, four(mine)...)
	foreign(t, both, theirs, false)
	foreign(t, both, mine, true)
}

func TestForeignRest(t *testing.T) { // P16.2: other numbers of a message are none of a server
	for _, n := range numbers() {
		m := msg.Msg{Op: n, Htype: n, Hlen: n, Hops: n, Xid: n, Secs: n, Flags: n, Ci: n, Yi: n, Si: n, Gi: n}
		foreign(t, m, mine, false)
		foreign(t, with(m, 54, four(mine)...), mine, false)
		foreign(t, with(m, 54, four(theirs)...), mine, true)
	}
	for _, code := range []int{math.MinInt, -54, -1, 0, 1, 3, 50, 51, 53, 55, 61, 82, 118, 255, 256 + 54, 1<<32 + 54, math.MaxInt} {
		foreign(t, with(request(), code, four(theirs)...), mine, false)
		foreign(t, ahead(with(request(), 54, four(mine)...), code, four(theirs)...), mine, false)
		foreign(t, ahead(with(request(), 54, four(theirs)...), code, four(mine)...), mine, true)
	}
}

func TestForeignRandom(t *testing.T) { // P16.2, P16.3: a foreign message is of the class Selecting or Wrong
	r := rand.New(rand.NewSource(162))
	selecting, wrong, named, none := 0, 0, 0, 0
	for range 30000 {
		m, server := randomMsg(r), oneOf(r, numbers())
		n, has := handNumber(m, 54)
		if has && r.Intn(2) == 0 {
			server = n
		}
		want := handForeign(m, server)
		foreign(t, m, server, want)
		class := Of(m)
		switch {
		case want && class == Selecting:
			selecting++
		case want && class == Wrong:
			wrong++
		case want:
			t.Fatalf("it is foreign and of class %d: %s", class, tell(m))
		case has:
			named++
		default:
			none++
		}
	}
	if selecting < 1000 || wrong < 1000 || named < 1000 || none < 1000 {
		t.Errorf("too few of a kind: %d, %d, %d, %d", selecting, wrong, named, none)
	}
}
