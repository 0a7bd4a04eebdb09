package dest

import (
	"fmt"
	"math/rand"
	"slices"
	"testing"

	"boarder/api"
	"boarder/msg"
)

// roomy answers a copy of a list with spare capacity that is filled.
func roomy[T any](l []T, spare ...T) []T {
	return append(slices.Clone(l), spare...)[:len(l)]
}

// roomyMsg answers a message of its own memory, with spare capacity in which other options and numbers stand.
func roomyMsg(m msg.Msg) msg.Msg {
	m.Chaddr = roomy(m.Chaddr, 1, 2, 3, 4)
	m.Opts = roomy(m.Opts, api.Opt{Code: 53, Data: []byte{6}}, api.Opt{Code: 82, Data: four(other)})
	for i, o := range m.Opts {
		m.Opts[i].Data = roomy(o.Data, 6, 0, 0, 9)
	}
	return m
}

// all answers a list with what stands in its spare capacity.
func all[T any](l []T) []T {
	return l[:cap(l)]
}

// dump answers all that a message has in memory, spare capacity among it.
func dump(m msg.Msg) string {
	s := fmt.Sprintf("%#v %#v %#v %d", m, all(m.Chaddr), all(m.Opts), len(m.Opts))
	for _, o := range m.Opts {
		s += fmt.Sprintf("%#v", all(o.Data))
	}
	return s
}

func TestMemory(t *testing.T) { // P0, R3: messages stay as they are
	r := rand.New(rand.NewSource(170))
	for range 3000 {
		m, kind, yi := randomMsg(r), randomKind(r), oneOf(r, and0())
		n := roomyMsg(m)
		before := dump(n)
		if got, want := Of(n, kind, yi), Of(m, kind, yi); got != want {
			t.Fatalf("the spare capacity tells: %+v, not %+v: %s", got, want, tell(m))
		}
		if dump(n) != before {
			t.Fatalf("changed: %s", tell(m))
		}
	}
}

func TestNothingRetained(t *testing.T) { // P0, R3, R4: what was asked before has no effect, whatever the order
	l := samples()
	for _, first := range l {
		for _, s := range l {
			Of(first.msg(), first.kind, other)
			goes(t, s.msg(), s.kind, given, s.want)
			goes(t, s.msg(), s.kind, given, s.want)
		}
	}
}

func TestNil(t *testing.T) { // R3: nil and empty lists are alike
	for _, s := range samples() {
		m := s.msg()
		m.Chaddr, m.Opts = nil, nil
		goes(t, m, s.kind, given, s.want)
		m.Chaddr, m.Opts = []byte{}, []api.Opt{}
		goes(t, m, s.kind, given, s.want)
		goes(t, with(m, 53), s.kind, given, s.want)
	}
}
