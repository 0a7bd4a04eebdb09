package addr

import (
	"math"
	"math/bits"
	"math/rand"
	"net/netip"
	"strings"
	"testing"

	"boarder/api"
)

// edgeNumbers are numbers at and beyond the edges of what an address or a count of bits may be.
var edgeNumbers = []int{
	math.MinInt, math.MinInt + 1, -api.MaxAddr - 1, -256, -33, -32, -2, -1,
	0, 1, 2, 7, 8, 9, 31, 32, 33, 63, 64, 65, 255, 256,
	167772160, 167772161, 167772224, 167772415, 167772416, 3232235776, 3232235777,
	1<<31 - 1, 1 << 31, 1<<31 + 1, api.MaxAddr - 1, api.MaxAddr, api.MaxAddr + 1, 1<<33 - 1,
	1 << 40, math.MaxInt - 1, math.MaxInt,
}

// wrongAddrs are numbers that are no address.
var wrongAddrs = []int{math.MinInt, -api.MaxAddr, -1, api.MaxAddr + 1, api.MaxAddr + 2, 1 << 40, math.MaxInt}

// wrongBits are numbers of bits that no prefix has.
var wrongBits = []int{math.MinInt, -64, -32, -1, 33, 34, 64, 65, math.MaxInt}

// someAddrs answers addresses near each power of two, and others from a fixed seed.
func someAddrs() []int {
	l := []int{0, 167772160, 167772161, 3232235777, api.MaxAddr}
	for i := range 33 {
		for d := -1; d <= 1; d++ {
			if a := 1<<i + d; a >= 0 && a <= api.MaxAddr {
				l = append(l, a)
			}
		}
	}
	r := rand.New(rand.NewSource(1))
	for range 100 {
		l = append(l, int(r.Uint32()))
	}
	return l
}

// known answers the address as the library has it.
func known(a int) netip.Addr {
	return netip.AddrFrom4([4]byte{byte(a >> 24), byte(a >> 16), byte(a >> 8), byte(a)})
}

// cleared answers an address with only its most significant n bits, bit by bit.
func cleared(a, n int) int {
	for i := n; i < 32; i++ {
		a &^= 1 << (31 - i)
	}
	return a
}

func TestRight(t *testing.T) { // P1.1
	for _, a := range someAddrs() {
		if !Right(a) {
			t.Errorf("Right(%d): false", a)
		}
	}
	for _, a := range wrongAddrs {
		if Right(a) {
			t.Errorf("Right(%d): true", a)
		}
	}
}

func TestText(t *testing.T) { // P1.1
	for _, c := range []struct {
		a    int
		want string
	}{
		{0, "0.0.0.0"}, {1, "0.0.0.1"}, {255, "0.0.0.255"}, {256, "0.0.1.0"}, {65536, "0.1.0.0"}, {16777216, "1.0.0.0"},
		{167772167, "10.0.0.7"}, {3232235777, "192.168.1.1"}, {1 << 31, "128.0.0.0"},
		{api.MaxAddr - 1, "255.255.255.254"}, {api.MaxAddr, "255.255.255.255"},
	} {
		if s, e := Text(c.a); s != c.want || e != api.OK {
			t.Errorf("Text(%d): %q, %d, want %q", c.a, s, e, c.want)
		}
	}
	for _, a := range someAddrs() {
		if s, e := Text(a); s != known(a).String() || e != api.OK {
			t.Errorf("Text(%d): %q, %d, want %q", a, s, e, known(a))
		}
	}
	for _, a := range wrongAddrs {
		if s, e := Text(a); s != "" || e != api.ErrArg {
			t.Errorf("Text(%d): %q, %d, want ErrArg", a, s, e)
		}
	}
}

func TestParse(t *testing.T) { // P1.1
	for _, c := range []struct {
		s    string
		want int
	}{
		{"0.0.0.0", 0}, {"0.0.0.1", 1}, {"0.0.1.0", 256}, {"0.1.0.0", 65536}, {"1.0.0.0", 16777216}, {"1.2.3.4", 16909060},
		{"10.0.0.7", 167772167}, {"192.168.1.1", 3232235777}, {"100.200.99.249", 1690854393}, {"255.255.255.255", api.MaxAddr},
	} {
		if a, e := Parse(c.s); a != c.want || e != api.OK {
			t.Errorf("Parse(%q): %d, %d, want %d", c.s, a, e, c.want)
		}
	}
}

func TestParseWrong(t *testing.T) { // P1.1
	for _, s := range []string{
		"", ".", "..", "...", "....", "0", "10", "10.0", "10.0.0", "10.0.0.", ".10.0.0", "10..0.7", "10.0..7", "10.0.0.7.", ".10.0.0.7",
		"1.2.3.4.5", "1.2.3.4.5.6", "1.2.3..", "1..2.3", "3232235777",
		"10.0.0.07", "10.0.00.7", "10.00.0.7", "010.0.0.7", "00.0.0.0", "0.0.0.00", "0.0.0.000", "0.0.0.0000", "001.2.3.4",
		"256.0.0.0", "0.256.0.0", "0.0.256.0", "0.0.0.256", "0.0.0.260", "0.0.0.300", "0.0.0.999", "0.0.0.1000", "0.0.0.2550",
		"0.0.0.4294967296", "0.0.0.18446744073709551616", "0.0.0.18446744073709551617",
		"-1.0.0.0", "0.0.0.-1", "+1.0.0.0", "0.0.0.+1", "-0.0.0.0", "0.0.0.-0", "1_0.0.0.1", "0x1.0.0.0", "1e1.0.0.0", "a.b.c.d", "1.2.3.a", "1.2.3.4a", "a1.2.3.4",
		" 1.2.3.4", "1.2.3.4 ", "1. 2.3.4", "1.2.3.4\n", "1.2.3.4\x00", "\x001.2.3.4", "1,2,3,4", "1:2:3:4", "1.2.3/4", "1.2.3.4/24", "1.2.3.:", "1.2.3./",
		"1.2.3.\xff", "\xff.\xff.\xff.\xff", "1.2.3.4\x80", "1\xc0\xae2.3.4", "1.2.3.\xb2", "1.2.3.\u00b2", "1.2.3.\u0664", "1.2.3.\uff14", "1\uff0e2\uff0e3\uff0e4", "1\u30022\u30023\u30024", "1.2.3.4\u00e9", "::ffff:1.2.3.4",
		strings.Repeat(".", 1000), strings.Repeat("1.", 1000), "1.2.3." + strings.Repeat("0", 1000), "1.2.3." + strings.Repeat("9", 1000),
	} {
		if a, e := Parse(s); a != 0 || e != api.ErrForm {
			t.Errorf("Parse(%q): %d, %d, want ErrForm", s, a, e)
		}
	}
}

// TestParseParts goes through all parts of one to four digits, at each of the four places.
func TestParseParts(t *testing.T) { // P1.1
	for n := range 10000 {
		digits := string([]byte{'0' + byte(n/1000), '0' + byte(n/100%10), '0' + byte(n/10%10), '0' + byte(n%10)})
		for from := range 4 {
			p := digits[from:]
			for at := range 4 {
				l := []string{"1", "2", "3", "4"}
				l[at] = p
				checkParse(t, strings.Join(l, "."))
			}
		}
	}
}

// checkParse holds Parse against the library's way to read an address.
func checkParse(t *testing.T, s string) {
	t.Helper()
	want, wantE := 0, api.ErrForm
	if k, err := netip.ParseAddr(s); err == nil && k.Is4() {
		want, wantE = 0, api.OK
		for _, b := range k.As4() {
			want = want*256 + int(b)
		}
	}
	if a, e := Parse(s); a != want || e != wantE {
		t.Errorf("Parse(%q): %d, %d, want %d, %d", s, a, e, want, wantE)
	}
}

// TestParseShort goes through all short texts of a few characters.
func TestParseShort(t *testing.T) { // P1.1
	var grow func(s string, left int)
	grow = func(s string, left int) {
		checkParse(t, s)
		if left > 0 {
			for _, c := range []string{"0", "2", ".", "-"} {
				grow(s+c, left-1)
			}
		}
	}
	grow("", 9)
}

func TestFair(t *testing.T) { // P1.2
	for _, c := range []struct {
		base, bits int
		want       bool
	}{
		{0, 0, true}, {1, 0, false}, {1 << 31, 0, false}, {api.MaxAddr, 0, false},
		{0, 1, true}, {1 << 31, 1, true}, {1 << 30, 1, false},
		{167772160, 24, true}, {167772161, 24, false}, {167772288, 24, false}, {167772416, 24, true}, {167772160, 8, true}, {167772160, 6, false}, {167772160, 7, true},
		{0, 32, true}, {167772161, 32, true}, {api.MaxAddr, 32, true}, {api.MaxAddr, 31, false}, {api.MaxAddr - 1, 31, true},
	} {
		if got := Fair(c.base, c.bits); got != c.want {
			t.Errorf("Fair(%d, %d): %v", c.base, c.bits, got)
		}
	}
	for _, a := range someAddrs() {
		for n := range 33 {
			if got := Fair(a, n); got != (cleared(a, n) == a) {
				t.Errorf("Fair(%d, %d): %v", a, n, got)
			}
		}
		for _, n := range wrongBits {
			if Fair(a, n) {
				t.Errorf("Fair(%d, %d): true", a, n)
			}
		}
	}
	for _, a := range append(wrongAddrs, -1<<32, -256, 1<<32, 1<<33) {
		for n := -1; n <= 33; n++ {
			if Fair(a, n) {
				t.Errorf("Fair(%d, %d): true", a, n)
			}
		}
	}
}

func TestMask(t *testing.T) { // P1.2
	for _, c := range []struct{ bits, want int }{{0, 0}, {1, 1 << 31}, {8, 4278190080}, {24, 4294967040}, {31, api.MaxAddr - 1}, {32, api.MaxAddr}} {
		if m, e := Mask(c.bits); m != c.want || e != api.OK {
			t.Errorf("Mask(%d): %d, %d, want %d", c.bits, m, e, c.want)
		}
	}
	for n := range 33 {
		m, e := Mask(n)
		if e != api.OK || m != cleared(api.MaxAddr, n) || bits.OnesCount(uint(m)) != n {
			t.Errorf("Mask(%d): %d, %d", n, m, e)
		}
	}
	for _, n := range wrongBits {
		if m, e := Mask(n); m != 0 || e != api.ErrArg {
			t.Errorf("Mask(%d): %d, %d, want ErrArg", n, m, e)
		}
	}
}

func TestHas(t *testing.T) { // P1.2
	for _, c := range []struct {
		base, bits, a int
		want          bool
	}{
		{0, 0, 0, true}, {0, 0, 5, true}, {0, 0, api.MaxAddr, true}, {0, 0, -1, false}, {0, 0, api.MaxAddr + 1, false},
		{167772160, 24, 167772159, false}, {167772160, 24, 167772160, true}, {167772160, 24, 167772415, true}, {167772160, 24, 167772416, false},
		{167772161, 24, 167772161, false}, {167772161, 24, 167772160, false}, {167772160, 33, 167772160, false}, {167772160, -1, 167772160, false},
		{7, 32, 7, true}, {7, 32, 6, false}, {7, 32, 8, false}, {api.MaxAddr, 32, api.MaxAddr, true},
		{api.MaxAddr - 255, 24, api.MaxAddr + 1, false}, {0, 24, -1, false}, {0, 24, -256, false},
		{1 << 32, 0, 1 << 32, false}, {1 << 32, 24, 1 << 32, false}, {-256, 24, -256, false}, {-256, 24, -1, false},
	} {
		if got := Has(c.base, c.bits, c.a); got != c.want {
			t.Errorf("Has(%d, %d, %d): %v", c.base, c.bits, c.a, got)
		}
	}
	for _, b := range someAddrs() {
		for n := range 33 {
			base := cleared(b, n)
			p := netip.PrefixFrom(known(base), n)
			for _, a := range someAddrs() {
				if got := Has(base, n, a); got != p.Contains(known(a)) {
					t.Fatalf("Has(%d, %d, %d): %v", base, n, a, got)
				}
			}
			for _, a := range wrongAddrs {
				if Has(base, n, a) {
					t.Fatalf("Has(%d, %d, %d): true", base, n, a)
				}
			}
			if base != b && Has(b, n, b) {
				t.Fatalf("Has(%d, %d, %d): true", b, n, b)
			}
		}
	}
}

func TestLast(t *testing.T) { // P1.2
	for _, c := range []struct{ base, bits, want int }{
		{0, 0, api.MaxAddr}, {0, 1, 1<<31 - 1}, {1 << 31, 1, api.MaxAddr}, {167772160, 24, 167772415}, {167772160, 8, 184549375},
		{0, 32, 0}, {167772161, 32, 167772161}, {api.MaxAddr, 32, api.MaxAddr}, {api.MaxAddr - 1, 31, api.MaxAddr},
	} {
		if a, e := Last(c.base, c.bits); a != c.want || e != api.OK {
			t.Errorf("Last(%d, %d): %d, %d, want %d", c.base, c.bits, a, e, c.want)
		}
	}
	for _, c := range []struct{ base, bits int }{
		{0, -1}, {0, 33}, {0, math.MinInt}, {0, math.MaxInt}, {-1, 24}, {-1, 32}, {-256, 24}, {api.MaxAddr + 1, 0}, {api.MaxAddr + 1, 32},
		{math.MinInt, 0}, {math.MaxInt, 32}, {167772161, 24}, {1, 0}, {1, 31}, {api.MaxAddr, 31},
	} {
		if a, e := Last(c.base, c.bits); a != 0 || e != api.ErrArg {
			t.Errorf("Last(%d, %d): %d, %d, want ErrArg", c.base, c.bits, a, e)
		}
	}
}

func TestMeet(t *testing.T) { // P1.3
	for _, c := range []struct {
		base, bits, base2, bits2 int
		want                     bool
	}{
		{0, 0, 0, 0, true}, {0, 0, api.MaxAddr, 32, true}, {0, 1, 1 << 31, 1, false},
		{167772160, 24, 167772160, 24, true}, {167772160, 24, 167772224, 26, true}, {167772160, 24, 167772415, 32, true},
		{167772160, 24, 167772416, 24, false}, {167772160, 24, 167772416, 32, false}, {167772160, 24, 167772159, 32, false},
		{7, 32, 7, 32, true}, {7, 32, 8, 32, false}, {6, 31, 7, 32, true}, {6, 31, 8, 32, false},
		{0, 0, 0, 33, false}, {0, 0, 0, -1, false}, {0, 0, -1, 32, false}, {0, 0, api.MaxAddr + 1, 32, false},
		{0, 0, 167772161, 24, false}, {167772161, 24, 167772161, 24, false}, {-256, 24, -256, 24, false}, {1 << 32, 24, 1 << 32, 24, false},
	} {
		if got := Meet(c.base, c.bits, c.base2, c.bits2); got != c.want {
			t.Errorf("Meet(%d, %d, %d, %d): %v", c.base, c.bits, c.base2, c.bits2, got)
		}
		if got := Meet(c.base2, c.bits2, c.base, c.bits); got != c.want {
			t.Errorf("Meet(%d, %d, %d, %d): %v", c.base2, c.bits2, c.base, c.bits, got)
		}
	}
	l := somePrefixes()
	for _, p := range l {
		for _, q := range l {
			want := netip.PrefixFrom(known(p.base), p.bits).Overlaps(netip.PrefixFrom(known(q.base), q.bits))
			if got := Meet(p.base, p.bits, q.base, q.bits); got != want {
				t.Fatalf("Meet(%d, %d, %d, %d): %v", p.base, p.bits, q.base, q.bits, got)
			}
		}
	}
}

type prefix struct{ base, bits int }

// somePrefixes answers right prefixes of all counts of bits, some of them nested.
func somePrefixes() []prefix {
	var l []prefix
	for _, a := range []int{0, 5, 167772161, 167772416, 3232235777, 1<<31 - 1, 1 << 31, api.MaxAddr - 1, api.MaxAddr} {
		for n := range 33 {
			l = append(l, prefix{cleared(a, n), n})
		}
	}
	return l
}

func TestInverse(t *testing.T) { // P1.4
	for _, a := range someAddrs() {
		s, e := Text(a)
		if b, e2 := Parse(s); b != a || e != api.OK || e2 != api.OK {
			t.Errorf("Parse(Text(%d)): %d, %d, %d", a, b, e, e2)
		}
	}
	for _, s := range []string{"0.0.0.0", "1.2.3.4", "10.0.0.7", "0.10.100.255", "99.9.199.249", "192.168.1.1", "255.255.255.255"} {
		a, e := Parse(s)
		if s2, e2 := Text(a); s2 != s || e != api.OK || e2 != api.OK {
			t.Errorf("Text(Parse(%q)): %q, %d, %d", s, s2, e, e2)
		}
	}
}

func TestFromBaseToLast(t *testing.T) { // P1.5
	for _, p := range somePrefixes() {
		last, e := Last(p.base, p.bits)
		if e != api.OK {
			t.Fatalf("Last(%d, %d): %d", p.base, p.bits, e)
		}
		for _, a := range append(someAddrs(), p.base-1, p.base, p.base+1, last-1, last, last+1) {
			want := a >= p.base && a <= last
			if got := Has(p.base, p.bits, a); got != want {
				t.Fatalf("Has(%d, %d, %d): %v", p.base, p.bits, a, got)
			}
		}
	}
	for n := 22; n <= 32; n++ { // every address of small ones, and those around them
		base := 167772160
		last, _ := Last(base, n)
		for a := base - 2000; a < base+2000; a++ {
			if got := Has(base, n, a); got != (a >= base && a <= last) {
				t.Fatalf("Has(%d, %d, %d): %v", base, n, a, got)
			}
		}
	}
}

// within: does p contain the first and the last address of q, and so all of them?
func within(t *testing.T, p, q prefix) bool {
	t.Helper()
	last, e := Last(q.base, q.bits)
	if e != api.OK {
		t.Fatalf("Last(%d, %d): %d", q.base, q.bits, e)
	}
	return Has(p.base, p.bits, q.base) && Has(p.base, p.bits, last)
}

func TestOneWithinTheOther(t *testing.T) { // P1.6
	l := somePrefixes()
	for _, p := range l {
		for _, q := range l {
			if Meet(p.base, p.bits, q.base, q.bits) != (within(t, p, q) || within(t, q, p)) {
				t.Fatalf("%v and %v: Meet, but none within the other, or the other way about", p, q)
			}
		}
	}
}

// TestAnyNumbers calls everything with numbers of all kinds: nothing panics, and with an error the other result is zero.
func TestAnyNumbers(t *testing.T) { // P0: R1, R2
	for _, a := range edgeNumbers {
		if s, e := Text(a); (e == api.OK) != Right(a) || e != api.OK && (e != api.ErrArg || s != "") {
			t.Errorf("Text(%d): %q, %d", a, s, e)
		}
		if m, e := Mask(a); (e == api.OK) != (a >= 0 && a <= 32) || e != api.OK && (e != api.ErrArg || m != 0) {
			t.Errorf("Mask(%d): %d, %d", a, m, e)
		}
		for _, n := range edgeNumbers {
			fair := Fair(a, n)
			if v, e := Last(a, n); (e == api.OK) != fair || e != api.OK && (e != api.ErrArg || v != 0) {
				t.Errorf("Last(%d, %d): %d, %d", a, n, v, e)
			}
			for _, b := range edgeNumbers {
				if Has(a, n, b) && (!fair || !Right(b)) {
					t.Errorf("Has(%d, %d, %d): true", a, n, b)
				}
				for _, n2 := range edgeNumbers {
					if Meet(a, n, b, n2) && (!fair || !Fair(b, n2)) {
						t.Errorf("Meet(%d, %d, %d, %d): true", a, n, b, n2)
					}
				}
			}
		}
	}
}

// TestAnyStrings calls Parse with bytes of all kinds.
func TestAnyStrings(t *testing.T) { // P0: R1, R2, R4
	r := rand.New(rand.NewSource(2))
	for range 20000 {
		b := make([]byte, r.Intn(20))
		for i := range b {
			if b[i] = "0123456789...."[r.Intn(14)]; r.Intn(30) == 0 {
				b[i] = byte(r.Intn(256))
			}
		}
		s := string(b)
		checkParseForm(t, s)
	}
	for i := range 256 {
		for j := range 256 {
			checkParseForm(t, "1.2.3."+string([]byte{byte(i), byte(j)}))
			checkParseForm(t, string([]byte{byte(i), byte(j)})+".2.3.4")
		}
	}
}

// checkParseForm: with OK the text is that of the address, with an error the address is zero; and again the same.
func checkParseForm(t *testing.T, s string) {
	t.Helper()
	a, e := Parse(s)
	if e == api.OK {
		if s2, e2 := Text(a); s2 != s || e2 != api.OK {
			t.Errorf("Parse(%q): %d, whose text is %q", s, a, s2)
		}
	} else if e != api.ErrForm || a != 0 {
		t.Errorf("Parse(%q): %d, %d", s, a, e)
	}
	if a2, e2 := Parse(s); a2 != a || e2 != e {
		t.Errorf("Parse(%q) twice: %d, %d and %d, %d", s, a, e, a2, e2)
	}
	if !strings.ContainsAny(s, ":%") { // the library reads other kinds of addresses there
		checkParse(t, s)
	}
}
