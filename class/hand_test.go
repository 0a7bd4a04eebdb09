package class

import (
	"bytes"
	"fmt"
	"math"
	"math/rand"
	"slices"
	"testing"

	"boarder/api"
	"boarder/msg"
	"boarder/opts"
)

// Two servers, the address that a client wants, and the one that it has.
const (
	mine   = 10<<24 + 1
	theirs = 10<<24 + 2
	wanted = 10<<24 + 7
	held   = 10<<24 + 9
)

// plain answers a message that says nothing of a server, an address or its type.
func plain() msg.Msg {
	return msg.Msg{Op: 1, Htype: 1, Hlen: 6, Xid: 77, Chaddr: make([]byte, 16)}
}

// request answers a Request that names no server and wants nothing.
func request() msg.Msg {
	return with(plain(), 53, 3)
}

// with answers a message with an option more.
func with(m msg.Msg, code int, data ...byte) msg.Msg {
	m.Opts = append(slices.Clone(m.Opts), api.Opt{Code: code, Data: data})
	return m
}

// ahead answers a message with an option more, ahead of all others.
func ahead(m msg.Msg, code int, data ...byte) msg.Msg {
	m.Opts = append([]api.Opt{{Code: code, Data: data}}, m.Opts...)
	return m
}

// from answers a message with a Ci.
func from(m msg.Msg, ci int) msg.Msg {
	m.Ci = ci
	return m
}

// four answers the bytes of an address.
func four(a int) []byte {
	return []byte{byte(a >> 24), byte(a >> 16), byte(a >> 8), byte(a)}
}

// A sample is a message of each of the eight combinations, and what is to be said of it.
type sample struct {
	m            msg.Msg
	class, about int
	named        bool // it names a server: theirs
}

// samples answers the eight combinations, written out.
func samples() []sample {
	server := with(request(), 54, four(theirs)...)
	return []sample{
		{with(server, 50, four(wanted)...), Selecting, wanted, true},
		{with(request(), 50, four(wanted)...), Reboot, wanted, false},
		{from(request(), held), Extend, held, false},
		{request(), Wrong, 0, false},
		{server, Wrong, 0, true},
		{from(server, held), Wrong, 0, true},
		{from(with(request(), 50, four(wanted)...), held), Wrong, 0, false},
		{from(with(server, 50, four(wanted)...), held), Wrong, 0, true},
	}
}

// otherTypes answers the data of options Kind that are no Request's.
func otherTypes() [][]byte {
	return [][]byte{
		{1}, {2}, {4}, {5}, {6}, {7}, {8}, {0}, {9}, {13}, {19}, {35}, {67}, {128}, {131}, {253}, {255},
		nil, {}, {0, 3}, {3, 0}, {3, 3}, {0, 0, 0, 3}, {3, 0, 0, 0}, bytes.Repeat([]byte{3}, 600),
	}
}

// otherWidths answers data that are not four bytes.
func otherWidths() [][]byte {
	all := [][]byte{nil, {}}
	for _, n := range []int{1, 2, 3, 5, 6, 7, 8, 12, 16, 255, 256, 260, 599, 600, 601, 65540} {
		all = append(all, make([]byte, n), bytes.Repeat([]byte{10, 0, 0, 7}, n)[:n])
	}
	return all
}

// numbers answers numbers: addresses, and others that are none, with the bytes of addresses among them.
func numbers() []int {
	return []int{math.MinInt, math.MinInt + 1, -1 << 40, -1 << 32, -1<<32 + mine, -1<<32 + theirs, -theirs, -mine, -2, -1, 0, 1, 2, 255, 256, mine, theirs, wanted, held, 1<<31 - 1, 1 << 31, api.MaxAddr - 1, api.MaxAddr, api.MaxAddr + 1, 1<<32 + mine, 1<<32 + theirs, 1 << 40, math.MaxInt - 1, math.MaxInt}
}

// addresses answers those of the numbers that are addresses.
func addresses() []int {
	return slices.DeleteFunc(numbers(), func(n int) bool { return n < 0 || n > api.MaxAddr })
}

// handData answers the data of the first option with a code.
func handData(m msg.Msg, code int) []byte {
	for _, o := range m.Opts {
		if o.Code == code {
			return o.Data
		}
	}
	return nil
}

// handNumber answers the number of an option with four bytes.
func handNumber(m msg.Msg, code int) (int, bool) {
	b := handData(m, code)
	if len(b) != 4 {
		return 0, false
	}
	return int(b[0])<<24 | int(b[1])<<16 | int(b[2])<<8 | int(b[3]), true
}

// handClass answers what P16.1 says, by the chapter's table.
func handClass(m msg.Msg) (class, about int) {
	type row struct{ server, wanted, ci bool }
	wanted, wants := handNumber(m, 50)
	_, named := handNumber(m, 54)
	if !bytes.Equal(handData(m, 53), []byte{3}) {
		return 0, 0
	}
	switch (row{named, wants, m.Ci != 0}) {
	case row{true, true, false}:
		return 1, wanted
	case row{false, true, false}:
		return 2, wanted
	case row{false, false, true}:
		return 3, m.Ci
	}
	return 0, 0
}

// handForeign answers what P16.2 says.
func handForeign(m msg.Msg, server int) bool {
	n, named := handNumber(m, 54)
	return named && n != server
}

// randomMsg answers a message whose type, Server, Wanted and Ci are there or not, twice and wrong now and then.
func randomMsg(r *rand.Rand) msg.Msg {
	m := plain()
	m.Gi, m.Yi, m.Si, m.Flags = oneOf(r, numbers()), oneOf(r, numbers()), oneOf(r, numbers()), oneOf(r, numbers())
	if r.Intn(3) == 0 {
		m.Ci = oneOf(r, numbers())
	}
	codes := []int{50, 54}
	for _, code := range codes {
		if r.Intn(2) == 0 {
			m = with(m, code, randomNumber(r)...)
		}
	}
	for range r.Intn(3) {
		m = with(m, oneOf(r, append(codes, 0, 51, 53, 256+50, 256+54)), randomNumber(r)...)
	}
	kind := []byte{3}
	if r.Intn(4) == 0 {
		kind = oneOf(r, otherTypes())
	}
	m = ahead(m, 53, kind...)
	r.Shuffle(len(m.Opts), func(i, j int) { m.Opts[i], m.Opts[j] = m.Opts[j], m.Opts[i] })
	return m
}

// randomNumber answers an option's data, of four bytes most often.
func randomNumber(r *rand.Rand) []byte {
	if r.Intn(5) == 0 {
		return make([]byte, r.Intn(12))
	}
	return four(oneOf(r, addresses()))
}

// oneOf answers any element of a list.
func oneOf[T any](r *rand.Rand, l []T) T {
	return l[r.Intn(len(l))]
}

// tell answers a message in a few words.
func tell(m msg.Msg) string {
	return fmt.Sprintf("%.500s", fmt.Sprintf("%+v", m))
}

// says holds Of and About against what they have to answer.
func says(t *testing.T, m msg.Msg, class, about int) {
	t.Helper()
	if got := Of(m); got != class {
		t.Errorf("Of is %d, not %d: %s", got, class, tell(m))
	}
	if got := About(m); got != about {
		t.Errorf("About is %d, not %d: %s", got, about, tell(m))
	}
}

// holds does the same, and holds them against it for the message with every other type, and with none.
func holds(t *testing.T, m msg.Msg, class, about int) {
	t.Helper()
	says(t, m, class, about)
	says(t, untyped(m), Wrong, 0)
	for _, b := range otherTypes() {
		says(t, ahead(m, 53, b...), Wrong, 0)
	}
}

// untyped answers a message without a type.
func untyped(m msg.Msg) msg.Msg {
	m.Opts = slices.DeleteFunc(slices.Clone(m.Opts), func(o api.Opt) bool { return o.Code == 53 })
	return m
}

// tells holds Foreign against what it has to answer.
func tells(t *testing.T, m msg.Msg, server int, want bool) {
	t.Helper()
	if got := Foreign(m, server); got != want {
		t.Errorf("Foreign of %d is %v: %s", server, got, tell(m))
	}
}

// foreign does the same, and holds it against that for the message with every other type, and with none: a type has no effect.
func foreign(t *testing.T, m msg.Msg, server int, want bool) {
	t.Helper()
	tells(t, m, server, want)
	tells(t, untyped(m), server, want)
	for _, b := range otherTypes() {
		tells(t, ahead(m, 53, b...), server, want)
	}
}

func TestFixtures(t *testing.T) { // what the other tests lean on
	seen := map[[3]bool]bool{}
	for i, s := range samples() {
		if !msg.Right(s.m) || opts.KindOf(s.m.Opts) != opts.Request {
			t.Errorf("sample %d is no valid Request", i)
		}
		server, named := opts.Number(s.m.Opts, opts.Server)
		_, wants := opts.Number(s.m.Opts, opts.Wanted)
		if named != s.named || named && server != theirs {
			t.Errorf("sample %d names %d, %v", i, server, named)
		}
		if class, about := handClass(s.m); class != s.class || about != s.about {
			t.Errorf("sample %d by hand: %d, %d", i, class, about)
		}
		seen[[3]bool{named, wants, s.m.Ci != 0}] = true
	}
	if len(seen) != 8 {
		t.Errorf("%d combinations", len(seen))
	}
	for _, b := range otherTypes() {
		if opts.KindOf([]api.Opt{{Code: opts.Kind, Data: b}}) == opts.Request {
			t.Errorf("%x is a Request's", b)
		}
	}
	for _, b := range otherWidths() {
		if len(b) == 4 {
			t.Errorf("%x has four bytes", b)
		}
	}
}
