package reply

import (
	"math"
	"math/rand"
	"slices"
	"testing"

	"boarder/api"
	"boarder/msg"
)

// allCodes answers codes of options, and numbers that are none.
func allCodes() []int {
	l := []int{math.MinInt, -1 << 32, -256, -255, -253, -3, -1, 256, 257, 259, 256 + 55, 1<<16 + 3, 1<<32 + 3, math.MaxInt}
	for code := range 256 {
		l = append(l, code)
	}
	return l
}

// asks holds Asked, for all codes, against those that it has to hold of.
func asks(t *testing.T, m msg.Msg, want func(code int) bool) {
	t.Helper()
	for _, code := range allCodes() {
		if got := Asked(m, code); got != want(code) {
			t.Errorf("%d is asked for: %v, in %s", code, got, tell(m))
		}
	}
}

// among answers whether a code is one of these.
func among(codes ...int) func(int) bool {
	return func(code int) bool { return slices.Contains(codes, code) }
}

func TestAskedForAll(t *testing.T) { // P18.1: without the option Params all is asked for, whatever else there is
	everything := func(int) bool { return true }
	asks(t, msg.Msg{}, everything)
	asks(t, plain(), everything)
	asks(t, full(), everything)
	for _, code := range []int{math.MinInt, -55, 0, 54, 56, 255, 256 + 55, 1<<32 + 55, math.MaxInt} {
		asks(t, with(plain(), code, 9, 10), everything)
	}
	asks(t, with(plain(), 61, 55, 1, 3), everything) // the bytes of an option Params, in another option
}

func TestAskedForListed(t *testing.T) { // P18.1: with the option, what it lists
	asks(t, with(plain(), 55), among())
	asks(t, with(plain(), 55, 1), among(1))
	asks(t, with(plain(), 55, 3), among(3))
	asks(t, with(plain(), 55, 1, 3), among(1, 3))
	asks(t, with(plain(), 55, 3, 1, 3, 1), among(1, 3))
	asks(t, with(plain(), 55, 6, 15, 119), among(6, 15, 119))
	asks(t, with(plain(), 55, 0, 255), among(0, 255))
	asks(t, with(plain(), 55, 55), among(55))
	asks(t, with(plain(), 55, 2, 4, 129, 131), among(2, 4, 129, 131))
	asks(t, with(plain(), 55, 0, 0, 0, 3), among(0, 3)) // each byte is a code
	asks(t, with(full(), 55, 1), among(1))
	asks(t, with(with(with(plain(), 1, 3), 55, 7), 3, 1), among(7))
	long := slices.Concat(make([]byte, 599), []byte{3})
	asks(t, with(plain(), 55, long...), among(0, 3))
}

func TestAskedOfAny(t *testing.T) { // P18.1, P0: messages that are not valid: the first option counts
	asks(t, with(with(plain(), 55, 1), 55, 3), among(1))
	asks(t, with(with(plain(), 55), 55, 3), among())
	asks(t, with(with(plain(), 0, 3), 55, 1), among(1))
	asks(t, with(plain(), 55, append(make([]byte, 100000), 9)...), among(0, 9))
	for _, m := range wrongMsgs() {
		asks(t, m, func(code int) bool { return handAsked(m, code) })
	}
	many := msg.Msg{Opts: make([]api.Opt, 100000)}
	asks(t, with(many, 55, 4), among(4))
}

func TestAskedRandom(t *testing.T) { // P18.1
	r := rand.New(rand.NewSource(180))
	yes, no := 0, 0
	for range 20000 {
		m := randomMsg(r)
		for range r.Intn(3) { // a second option Params now and then
			m = with(m, oneOf(r, []int{0, 55, 55, 1, 311}), randomData(r)...)
		}
		code := oneOf(r, []int{1, 3, 3, r.Intn(8), oneOf(r, allCodes())})
		got, want := Asked(m, code), handAsked(m, code)
		if got != want {
			t.Fatalf("%d is asked for: %v, in %s", code, got, tell(m))
		}
		if got {
			yes++
		} else {
			no++
		}
	}
	if yes < 3000 || no < 3000 {
		t.Errorf("too few of a kind: %d, %d", yes, no)
	}
}
