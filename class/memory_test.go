package class

import (
	"fmt"
	"math/rand"
	"slices"
	"testing"

	"boarder/api"
	"boarder/msg"
)

// roomy answers a copy of a list with spare capacity that is filled.
func roomy[T any](l []T, spare ...T) []T {
	return append(slices.Clone(l), spare...)[:len(l)]
}

// roomyMsg answers a message of its own memory, with spare capacity in which other options and numbers stand.
func roomyMsg(m msg.Msg) msg.Msg {
	m.Chaddr = roomy(m.Chaddr, 1, 2, 3, 4)
	m.Opts = roomy(m.Opts, api.Opt{Code: 53, Data: []byte{3}}, api.Opt{Code: 54, Data: four(theirs)}, api.Opt{Code: 50, Data: four(wanted)})
	for i, o := range m.Opts {
		m.Opts[i].Data = roomy(o.Data, 3, 0, 0, 9)
	}
	return m
}

// all answers a list with what stands in its spare capacity.
func all[T any](l []T) []T {
	return l[:cap(l)]
}

// dump answers all that a message has in memory, spare capacity among it.
func dump(m msg.Msg) string {
	s := fmt.Sprintf("%#v %#v %#v %d", m, all(m.Chaddr), all(m.Opts), len(m.Opts))
	for _, o := range m.Opts {
		s += fmt.Sprintf("%#v", all(o.Data))
	}
	return s
}

// answers has what all calls say.
func answers(m msg.Msg) string {
	s := fmt.Sprintln(Of(m), About(m))
	for _, server := range numbers() {
		s += fmt.Sprintln(Foreign(m, server))
	}
	return s
}

func TestMemory(t *testing.T) { // P0, R3: messages stay as they are, and their spare capacity is none of them
	r := rand.New(rand.NewSource(160))
	for range 3000 {
		m := randomMsg(r)
		n := roomyMsg(m)
		before := dump(n)
		if got, want := answers(n), answers(m); got != want {
			t.Fatalf("the spare capacity tells: %s, not %s: %s", got, want, tell(m))
		}
		if dump(n) != before {
			t.Fatalf("changed: %s", tell(m))
		}
	}
}

func TestNothingRetained(t *testing.T) { // P0, R3, R4: what was asked before has no effect, in the same memory either
	m := with(with(request(), 50, four(wanted)...), 54, four(theirs)...)
	holds(t, m, Selecting, wanted)
	foreign(t, m, theirs, false)
	copy(m.Opts[1].Data, four(held))
	copy(m.Opts[2].Data, four(mine))
	holds(t, m, Selecting, held)
	foreign(t, m, theirs, true)
	foreign(t, m, mine, false)
	m.Opts[2].Code = 55
	holds(t, m, Reboot, held)
	foreign(t, m, theirs, false)
	m.Opts[0].Data[0] = 1
	holds(t, m, Wrong, 0)
	m.Opts[0].Data[0] = 3
	m.Opts[1].Data = m.Opts[1].Data[:3]
	holds(t, m, Wrong, 0)
	m.Ci = held
	holds(t, m, Extend, held)
}

func TestNil(t *testing.T) { // R3: nil and empty lists are alike
	m := from(plain(), held)
	n := m
	n.Opts, n.Chaddr = []api.Opt{}, []byte{}
	if got, want := answers(n), answers(m); got != want {
		t.Errorf("no options: %s, not %s", got, want)
	}
	for _, code := range []int{50, 53, 54} {
		for _, s := range samples() {
			m, n := s.m, s.m
			m.Opts = append([]api.Opt{{Code: code}}, s.m.Opts...)
			n.Opts = append([]api.Opt{{Code: code, Data: []byte{}}}, s.m.Opts...)
			if got, want := answers(n), answers(m); got != want {
				t.Errorf("no data: %s, not %s", got, want)
			}
		}
	}
}
