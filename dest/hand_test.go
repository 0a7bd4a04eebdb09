package dest

import (
	"fmt"
	"math"
	"math/rand"
	"slices"
	"testing"

	"boarder/api"
	"boarder/msg"
	"boarder/opts"
)

// A relay, the address that a client has, the one that a reply is about, and an address of nobody.
const (
	relayed = 10<<24 + 1
	held    = 10<<24 + 9
	given   = 10<<24 + 7
	other   = 10<<24 + 3
)

// everyone is the broadcast address, written out.
const everyone = 4294967295

// plain answers a message that comes from no relay, from a client without an address that asks for nothing.
func plain() msg.Msg {
	return msg.Msg{Op: 1, Htype: 1, Hlen: 6, Xid: 77, Chaddr: make([]byte, 16)}
}

// from answers a message with a Gi, a Ci and flags.
func from(gi, ci, flags int) msg.Msg {
	m := plain()
	m.Gi, m.Ci, m.Flags = gi, ci, flags
	return m
}

// with answers a message with an option more.
func with(m msg.Msg, code int, data ...byte) msg.Msg {
	m.Opts = append(slices.Clone(m.Opts), api.Opt{Code: code, Data: data})
	return m
}

// four answers the bytes of an address.
func four(a int) []byte {
	return []byte{byte(a >> 24), byte(a >> 16), byte(a >> 8), byte(a)}
}

// The four places to which replies go.
func toRelay(gi int) Dest   { return Dest{Addr: gi, Port: 67, Raw: false} }
func toEveryone() Dest      { return Dest{Addr: everyone, Port: 68, Raw: false} }
func toClient(ci int) Dest  { return Dest{Addr: ci, Port: 68, Raw: false} }
func toHardware(y int) Dest { return Dest{Addr: y, Port: 68, Raw: true} }

// A sample is a message and the type of a reply, and where that goes.
type sample struct {
	gi, ci, flags, kind int
	want                Dest
}

// samples answers the sixteen ways in which a Gi, Nak, a Ci and the highest bit of the flags can be there or not, written out.
func samples() []sample {
	return []sample{
		{0, 0, 0, 5, Dest{given, 68, true}},
		{0, 0, 32768, 5, Dest{everyone, 68, false}},
		{0, held, 0, 5, Dest{held, 68, false}},
		{0, held, 32768, 5, Dest{held, 68, false}},
		{0, 0, 0, 6, Dest{everyone, 68, false}},
		{0, 0, 32768, 6, Dest{everyone, 68, false}},
		{0, held, 0, 6, Dest{everyone, 68, false}},
		{0, held, 32768, 6, Dest{everyone, 68, false}},
		{relayed, 0, 0, 5, Dest{relayed, 67, false}},
		{relayed, 0, 32768, 5, Dest{relayed, 67, false}},
		{relayed, held, 0, 5, Dest{relayed, 67, false}},
		{relayed, held, 32768, 5, Dest{relayed, 67, false}},
		{relayed, 0, 0, 6, Dest{relayed, 67, false}},
		{relayed, 0, 32768, 6, Dest{relayed, 67, false}},
		{relayed, held, 0, 6, Dest{relayed, 67, false}},
		{relayed, held, 32768, 6, Dest{relayed, 67, false}},
	}
}

// msg answers the message of a sample.
func (s sample) msg() msg.Msg {
	return from(s.gi, s.ci, s.flags)
}

// otherKinds answers numbers that are not Nak's: every other type, and what is none.
func otherKinds() []int {
	return []int{1, 2, 3, 4, 5, 7, 8, 0, 9, 13, 18, 53, 67, 68, 255, 256, 256 + 6, 1<<16 + 6, 1<<32 + 6, math.MaxInt, -1, -2, -5, -6, -7, -250, math.MinInt, math.MinInt + 6}
}

// asking answers flags of which the highest bit is 1.
func asking() []int {
	return []int{32768, 32769, 32770, 33000, 32768 + 16384, 65534, 65535}
}

// silent answers flags that ask for nothing, and numbers that are none.
func silent() []int {
	return []int{0, 1, 2, 128, 255, 256, 16384, 32766, 32767, 65536, 65537, 65536 + 32767, 98304, 98305, 131071, 131072, 1 << 31, 1<<32 + 32768, 1 << 40, 1<<62 + 40000, math.MaxInt - 1, math.MaxInt, -1, -2, -32767, -32768, -32769, -65535, -65536, -1 << 32, -1<<32 + 32768, math.MinInt, math.MinInt + 32768}
}

// numbers answers numbers other than 0: addresses, and others that are none.
func numbers() []int {
	return []int{math.MinInt, math.MinInt + 1, -1 << 40, -1 << 32, -1<<32 + held, -held, -2, -1, 1, 2, 67, 68, 255, 256, 1 << 16, other, relayed, given, held, 1<<31 - 1, 1 << 31, api.MaxAddr - 1, api.MaxAddr, api.MaxAddr + 1, 1<<32 + held, 1 << 40, math.MaxInt - 1, math.MaxInt}
}

// and0 answers numbers and 0.
func and0() []int {
	return append(numbers(), 0)
}

// hand answers where P17.1 says that a reply goes, from the last of its cases to the first.
func hand(m msg.Msg, kind, yi int) Dest {
	d := Dest{yi, 68, true}
	if 32768 <= m.Flags && m.Flags <= 65535 {
		d = Dest{everyone, 68, false}
	}
	if m.Ci != 0 {
		d = Dest{m.Ci, 68, false}
	}
	if kind == 6 {
		d = Dest{everyone, 68, false}
	}
	if m.Gi != 0 {
		d = Dest{m.Gi, 67, false}
	}
	return d
}

// goes holds Of against where a reply has to go.
func goes(t *testing.T, m msg.Msg, kind, yi int, want Dest) {
	t.Helper()
	if got := Of(m, kind, yi); got != want {
		t.Errorf("%+v, not %+v: type %d, yi %d, %s", got, want, kind, yi, tell(m))
	}
}

// tell answers a message in a few words.
func tell(m msg.Msg) string {
	return fmt.Sprintf("%.500s", fmt.Sprintf("%+v", m))
}

// oneOf answers any element of a list.
func oneOf[T any](r *rand.Rand, l []T) T {
	return l[r.Intn(len(l))]
}

// randomMsg answers a message whose Gi, Ci and flags are there or not, with anything in its other fields and options.
func randomMsg(r *rand.Rand) msg.Msg {
	n := and0()
	m := msg.Msg{Op: oneOf(r, n), Htype: oneOf(r, n), Hlen: oneOf(r, n), Hops: oneOf(r, n), Xid: oneOf(r, n), Secs: oneOf(r, n), Yi: oneOf(r, n), Si: oneOf(r, n)}
	if r.Intn(4) == 0 {
		m.Gi = oneOf(r, numbers())
	}
	if r.Intn(2) == 0 {
		m.Ci = oneOf(r, numbers())
	}
	m.Flags = oneOf(r, silent())
	if r.Intn(2) == 0 {
		m.Flags = oneOf(r, asking())
	}
	m.Chaddr = make([]byte, r.Intn(20))
	r.Read(m.Chaddr)
	for range r.Intn(5) {
		m = with(m, oneOf(r, []int{-53, 0, 1, 50, 51, 52, 53, 54, 55, 61, 82, 118, 255, 256 + 53}), randomData(r)...)
	}
	return m
}

// randomData answers an option's data: a type's, an address's, or any.
func randomData(r *rand.Rand) []byte {
	switch r.Intn(3) {
	case 0:
		return []byte{byte(r.Intn(10))}
	case 1:
		return four(oneOf(r, numbers()))
	}
	b := make([]byte, r.Intn(9))
	r.Read(b)
	return b
}

// randomKind answers the type of a reply, Nak now and then.
func randomKind(r *rand.Rand) int {
	if r.Intn(4) == 0 {
		return 6
	}
	return oneOf(r, otherKinds())
}

func TestFixtures(t *testing.T) { // what the other tests lean on
	if opts.Nak != 6 || api.MaxAddr != everyone {
		t.Errorf("Nak is %d, the broadcast address %d", opts.Nak, api.MaxAddr)
	}
	seen := map[[4]bool]bool{}
	for i, s := range samples() {
		if !msg.Right(s.msg()) {
			t.Errorf("sample %d is no valid message", i)
		}
		if d := hand(s.msg(), s.kind, given); d != s.want {
			t.Errorf("sample %d by hand: %+v", i, d)
		}
		seen[[4]bool{s.gi != 0, s.ci != 0, s.flags != 0, s.kind == 6}] = true
	}
	if len(seen) != 16 {
		t.Errorf("%d ways", len(seen))
	}
	if slices.Contains(otherKinds(), 6) || slices.Contains(numbers(), 0) {
		t.Error("Nak among the other types, or 0 among the numbers")
	}
	for _, f := range append(asking(), silent()...) {
		if asks := f > 0 && f>>16 == 0 && f&0x8000 != 0; asks != slices.Contains(asking(), f) {
			t.Errorf("the flags %d", f)
		}
	}
}
