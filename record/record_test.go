package record

import (
	"bytes"
	"encoding/hex"
	"fmt"
	"math"
	"math/rand"
	"strings"
	"testing"

	"boarder/api"
)

// The edges of each number of a lease: those that may be, and those that may not.
var (
	goodAddrs    = []int{0, 1, 255, 256, 0x01020304, 1<<31 - 1, 1 << 31, api.MaxAddr - 1, api.MaxAddr}
	badAddrs     = []int{-1, -2, math.MinInt, api.MaxAddr + 1, api.MaxAddr + 2, 1 << 40, math.MaxInt}
	goodStates   = []int{1, 2, 3}
	badStates    = []int{-1, 0, 4, 5, -2, -3, 255, 256, 257, 258, 259, 1<<32 + 1, math.MinInt, math.MinInt + 1, math.MaxInt}
	goodExpiries = []int{0, 1, 255, 256, 258, 0x010203040506, 1<<48 - 1, 1 << 48, 1<<48 + 1, 0x02ff00ff00ff00, 1<<50 - 1, 1 << 50}
	badExpiries  = []int{-1, -2, math.MinInt, 1<<50 + 1, 1<<50 + 2, 1 << 51, 1<<56 - 1, 1 << 56, 1<<56 + 1, 1<<57 + 600, math.MaxInt}
)

// someBytes answers n bytes from a fixed seed.
func someBytes(n int) []byte {
	b := make([]byte, n)
	rand.New(rand.NewSource(int64(n) + 9)).Read(b)
	return b
}

// goodKeys answers valid keys, the shortest and the longest ones among them.
func goodKeys() []string {
	ks := []string{"i01", "iab", "hab", "i\x00\x00", "h\x00\x00", "i\xff\xff", "h\xff\xff", "iéß", "iii", "hhh", "h\x01\x02\x00\x00\x00\x00\x07", "i\x00\x00\x00\x01\x01\x00"}
	for _, n := range []int{2, 3, 11, 12, 16, 17} {
		ks = append(ks, "i"+string(someBytes(n)), "h"+string(someBytes(n)))
	}
	for _, n := range []int{18, 127, 128, 254, 255} {
		ks = append(ks, "i"+string(someBytes(n)), "i"+strings.Repeat("\x00", n), "i"+strings.Repeat("\xff", n))
	}
	return ks
}

// badKeys answers strings that are no valid keys.
func badKeys() []string {
	ks := []string{"", "i", "h", "i0", "h\x01", "\x00", "\x00\x00\x00", "ab", "abc", "jab", "gab", "Iab", "Hab", "\xffab", " iab", "éab", "i-", "-0102"}
	for _, n := range []int{256, 257, 259, 260, 512, 514, 600, 1 << 16, 1<<16 + 2} {
		ks = append(ks, "i"+string(someBytes(n)))
	}
	for _, n := range []int{18, 19, 32, 255, 256, 258, 1 << 16} {
		ks = append(ks, "h"+string(someBytes(n)))
	}
	return ks
}

// goodLeases answers valid leases: all edges of the numbers with some keys, and all keys with some numbers.
func goodLeases() []api.Lease {
	var l []api.Lease
	for _, a := range goodAddrs {
		for _, s := range goodStates {
			for _, x := range goodExpiries {
				l = append(l, api.Lease{Addr: a, State: s, Expiry: x, Key: "i01"}, api.Lease{Addr: a, State: s, Expiry: x, Key: "h\x01\x02\x00\x00\x00\x00\x07"})
			}
		}
	}
	for i, k := range goodKeys() {
		for _, s := range goodStates {
			l = append(l, api.Lease{Addr: goodAddrs[i%len(goodAddrs)], State: s, Expiry: goodExpiries[i%len(goodExpiries)], Key: k})
		}
	}
	return l
}

// badLeases answers leases that are not valid: with one part that may not be, and with several.
func badLeases() []api.Lease {
	l := []api.Lease{{}, {Key: "i01"}, {Addr: -1, State: -1, Expiry: -1}, {Addr: math.MinInt, State: math.MinInt, Expiry: math.MinInt, Key: "x"}, {Addr: math.MaxInt, State: math.MaxInt, Expiry: math.MaxInt, Key: "i01"}}
	for _, g := range []api.Lease{{Addr: 1, State: 1, Expiry: 258, Key: "i01"}, {Addr: api.MaxAddr, State: 3, Expiry: 1 << 50, Key: "i" + string(someBytes(255))}, {State: 2, Key: "h\x00\x00"}} {
		for _, v := range badAddrs {
			w := g
			w.Addr = v
			l = append(l, w)
		}
		for _, v := range badStates {
			w := g
			w.State = v
			l = append(l, w)
		}
		for _, v := range badExpiries {
			w := g
			w.Expiry = v
			l = append(l, w)
		}
		for _, v := range badKeys() {
			w := g
			w.Key = v
			l = append(l, w)
		}
	}
	return l
}

// handKey: is it a key, by the words of chapter 7?
func handKey(k string) bool {
	return strings.HasPrefix(k, "i") && len(k) >= 3 && len(k) <= 256 || strings.HasPrefix(k, "h") && len(k) >= 3 && len(k) <= 18
}

// handRight: is a lease valid, by the words of the chapter?
func handRight(l api.Lease) bool {
	return l.Addr >= 0 && l.Addr < 1<<32 && (l.State == 1 || l.State == 2 || l.State == 3) && l.Expiry >= 0 && l.Expiry <= 1<<50 && handKey(l.Key)
}

// handBytes answers the bytes of numbers that fit theirs, and of any key, by way of their hexadecimal digits.
func handBytes(l api.Lease) []byte {
	b, err := hex.DecodeString(fmt.Sprintf("%08x%02x%014x%x", l.Addr, l.State, l.Expiry, l.Key))
	if err != nil || len(b) != 12+len(l.Key) {
		panic("numbers that do not fit their bytes")
	}
	return b
}

// handRead answers what P9.2 says of bytes: each number is a sum here.
func handRead(b []byte) (api.Lease, api.Errno) {
	if len(b) < 12 {
		return api.Lease{}, api.ErrMore
	}
	number := func(b []byte) int {
		v := 0
		for _, x := range b {
			v = v*256 + int(x)
		}
		return v
	}
	l := api.Lease{Addr: number(b[:4]), State: number(b[4:5]), Expiry: number(b[5:12]), Key: string(b[12:])}
	if !handRight(l) {
		return api.Lease{}, api.ErrForm
	}
	return l, api.OK
}

// tell answers a lease's parts, and of its key no more than the beginning.
func tell(l api.Lease) string {
	return fmt.Sprintf("{%d %d %d, %d bytes %q}", l.Addr, l.State, l.Expiry, len(l.Key), l.Key[:min(len(l.Key), 30)])
}

// reads: does Read answer just this?
func reads(t *testing.T, b []byte, want api.Lease, wantE api.Errno) {
	t.Helper()
	if l, e := Read(b); l != want || e != wantE {
		t.Errorf("Read of %d bytes, %x: %s, %d, not %s, %d", len(b), b[:min(len(b), 40)], tell(l), e, tell(want), wantE)
	}
}

// writes: does Write answer just these bytes?
func writes(t *testing.T, l api.Lease, want []byte) {
	t.Helper()
	if b, e := Write(l); !bytes.Equal(b, want) || e != api.OK {
		t.Errorf("Write of %s: %x, %d, not %x", tell(l), b, e, want)
	}
}

func TestRight(t *testing.T) { // P9.1
	for _, l := range goodLeases() {
		if !Right(l) {
			t.Errorf("Right of %s: false", tell(l))
		}
	}
	for _, l := range badLeases() {
		if Right(l) {
			t.Errorf("Right of %s: true", tell(l))
		}
	}
}

func TestRightOfAllEdges(t *testing.T) { // P9.1: each edge of one part with each of the others
	keys := []string{"", "i", "i0", "i01", "h01", "x01", "i" + string(someBytes(255)), "i" + string(someBytes(256)), "h" + string(someBytes(17)), "h" + string(someBytes(18))}
	good, bad := 0, 0
	for _, a := range []int{math.MinInt, -1, 0, 1, api.MaxAddr, api.MaxAddr + 1, math.MaxInt} {
		for _, s := range []int{math.MinInt, -1, 0, 1, 2, 3, 4, 257, math.MaxInt} {
			for _, x := range []int{math.MinInt, -1, 0, 1, api.MaxTime, api.MaxTime + 1, math.MaxInt} {
				for _, k := range keys {
					l := api.Lease{Addr: a, State: s, Expiry: x, Key: k}
					want := handRight(l)
					if Right(l) != want {
						t.Errorf("Right of %s: %v", tell(l), !want)
					}
					if want {
						good++
						writes(t, l, handBytes(l))
					} else {
						bad++
						wrongLease(t, l)
					}
				}
			}
		}
	}
	if good != 3*3*3*4 || bad < 4000 {
		t.Errorf("%d valid leases and %d others", good, bad)
	}
}

// wrongLease: does Write answer ErrArg and no bytes?
func wrongLease(t *testing.T, l api.Lease) {
	t.Helper()
	if b, e := Write(l); b != nil || e != api.ErrArg {
		t.Errorf("Write of %s: %x, %d", tell(l), b, e)
	}
}

// examples are leases and their bytes.
var examples = []struct {
	l api.Lease
	b string
}{
	{api.Lease{Addr: 1, State: api.Bound, Expiry: 258, Key: "i01"}, "\x00\x00\x00\x01\x01\x00\x00\x00\x00\x00\x01\x02i01"}, // the chapter's own
	{api.Lease{Addr: 0, State: api.Released, Expiry: 0, Key: "h\x00\x00"}, "\x00\x00\x00\x00\x02\x00\x00\x00\x00\x00\x00\x00h\x00\x00"},
	{api.Lease{Addr: 0x01020304, State: api.Declined, Expiry: 0x01060708090a0b, Key: "h\x01\x02\x00\x00\x00\x00\x07"}, "\x01\x02\x03\x04\x03\x01\x06\x07\x08\x09\x0a\x0bh\x01\x02\x00\x00\x00\x00\x07"},
	{api.Lease{Addr: 4294967295, State: 3, Expiry: 1 << 50, Key: "i\xff\xff"}, "\xff\xff\xff\xff\x03\x04\x00\x00\x00\x00\x00\x00i\xff\xff"},
	{api.Lease{Addr: 0x80000000, State: 1, Expiry: 1<<50 - 1, Key: "iii"}, "\x80\x00\x00\x00\x01\x03\xff\xff\xff\xff\xff\xffiii"},
	{api.Lease{Addr: 0xff00, State: 2, Expiry: 1 << 48, Key: "hé"}, "\x00\x00\xff\x00\x02\x01\x00\x00\x00\x00\x00\x00h\xc3\xa9"},
}

func TestExamples(t *testing.T) { // P9.1, P9.2: bytes that are written out here
	for _, c := range examples {
		writes(t, c.l, []byte(c.b))
		reads(t, []byte(c.b), c.l, api.OK)
	}
}

func TestWrite(t *testing.T) { // P9.1
	for _, l := range goodLeases() {
		writes(t, l, handBytes(l))
	}
}

func TestWriteWrong(t *testing.T) { // P9.1
	for _, l := range badLeases() {
		wrongLease(t, l)
	}
}

func TestRead(t *testing.T) { // P9.2
	for _, l := range goodLeases() {
		reads(t, handBytes(l), l, api.OK)
	}
}

func TestReadLengths(t *testing.T) { // P9.2: fewer than 12 bytes are too few, whatever they say; from there on the key decides
	reads(t, nil, api.Lease{}, api.ErrMore)
	for n := range 300 {
		want := api.ErrMore
		if n >= 12 {
			want = api.ErrForm
		}
		reads(t, make([]byte, n), api.Lease{}, want)
		reads(t, bytes.Repeat([]byte{255}, n), api.Lease{}, want)
		reads(t, bytes.Repeat([]byte{1}, n), api.Lease{}, want)
	}
	for _, l := range goodLeases() {
		b := handBytes(l)
		for n := range min(len(b), 32) {
			want, wantE := handRead(b[:n])
			if n < 12 && wantE != api.ErrMore || n < 15 && n >= 12 && wantE != api.ErrForm {
				t.Fatalf("%d bytes of %x are expected to be %d", n, b, wantE)
			}
			reads(t, b[:n:n], want, wantE)
			reads(t, b[:n], want, wantE) // bytes behind the length are none of b's
		}
	}
}

func TestReadLongKeys(t *testing.T) { // P9.2: as many bytes as a valid key has
	head := "\x00\x00\x00\x01\x01\x00\x00\x00\x00\x00\x01\x02"
	for n := range 700 {
		for _, letter := range []string{"i", "h"} {
			k := letter + strings.Repeat("\x01", n)
			want, wantE := api.Lease{}, api.ErrForm
			if n >= 2 && (n <= 17 || n <= 255 && letter == "i") {
				want, wantE = api.Lease{Addr: 1, State: 1, Expiry: 258, Key: k}, api.OK
			}
			reads(t, []byte(head+k), want, wantE)
		}
	}
	reads(t, []byte(head), api.Lease{}, api.ErrForm)
	reads(t, make([]byte, 1<<20), api.Lease{}, api.ErrForm)
}

func TestReadEachByte(t *testing.T) { // P9.2: each value of each byte ahead of the key, and of its letter
	for _, c := range examples {
		for at := range 13 {
			for x := range 256 {
				b := []byte(c.b)
				b[at] = byte(x)
				want, wantE := handRead(b)
				reads(t, b, want, wantE)
				if at < 4 && wantE != api.OK || at == 4 && (wantE == api.OK) != (x >= 1 && x <= 3) || at == 5 && x > 4 && wantE != api.ErrForm {
					t.Fatalf("byte %d of %x as %d is expected to be %d", at, c.b, x, wantE)
				}
			}
		}
	}
}

func TestReadEachState(t *testing.T) { // P9.2
	for x := range 256 {
		b := []byte("\x00\x00\x00\x01" + string([]byte{byte(x)}) + "\x00\x00\x00\x00\x00\x01\x02i01")
		if x == 1 || x == 2 || x == 3 {
			reads(t, b, api.Lease{Addr: 1, State: x, Expiry: 258, Key: "i01"}, api.OK)
		} else {
			reads(t, b, api.Lease{}, api.ErrForm)
		}
	}
}

func TestReadExpiry(t *testing.T) { // P9.2: the highest byte is not nought only up to MaxTime
	for _, c := range []struct {
		expiry string
		want   int
	}{
		{"\x00\x00\x00\x00\x00\x00\x00", 0}, {"\x00\x00\x00\x00\x00\x00\x01", 1}, {"\x00\xff\xff\xff\xff\xff\xff", 1<<48 - 1}, {"\x01\x00\x00\x00\x00\x00\x00", 1 << 48},
		{"\x01\x00\x00\x00\x00\x00\x02", 1<<48 + 2}, {"\x02\x00\x00\x00\x00\x00\x00", 1 << 49}, {"\x03\xff\xff\xff\xff\xff\xff", 1<<50 - 1}, {"\x04\x00\x00\x00\x00\x00\x00", 1 << 50},
		{"\x04\x00\x00\x00\x00\x00\x01", -1}, {"\x04\x01\x00\x00\x00\x00\x00", -1}, {"\x05\x00\x00\x00\x00\x00\x00", -1}, {"\x08\x00\x00\x00\x00\x00\x00", -1}, {"\x7f\x00\x00\x00\x00\x00\x00", -1}, {"\x80\x00\x00\x00\x00\x00\x00", -1}, {"\xff\xff\xff\xff\xff\xff\xff", -1},
	} {
		b := []byte("\x00\x00\x00\x01\x01" + c.expiry + "i01")
		if c.want < 0 {
			reads(t, b, api.Lease{}, api.ErrForm)
		} else {
			reads(t, b, api.Lease{Addr: 1, State: 1, Expiry: c.want, Key: "i01"}, api.OK)
		}
	}
}

func TestReadWrong(t *testing.T) { // P9.2: what is not valid, as bytes
	numbers := 0
	for _, l := range badLeases() {
		if l.Addr < 0 || l.Addr >= 1<<32 || l.State < 0 || l.State > 255 || l.Expiry < 0 || l.Expiry >= 1<<56 {
			continue // has no bytes
		}
		numbers++
		reads(t, handBytes(l), api.Lease{}, api.ErrForm)
	}
	if numbers < 100 {
		t.Errorf("only %d leases have bytes", numbers)
	}
	for _, k := range badKeys() { // behind right numbers
		for _, c := range examples {
			reads(t, []byte(c.b[:12]+k), api.Lease{}, api.ErrForm)
		}
	}
	for _, c := range examples { // another order of the bytes, and a byte too many or too few ahead
		for _, s := range []string{c.b[1:], "\x00" + c.b, c.b[:4] + c.b[5:], c.b[:5] + "\x00" + c.b[5:], c.b[12:] + c.b[:12]} {
			want, wantE := handRead([]byte(s))
			reads(t, []byte(s), want, wantE)
		}
	}
}

func TestReadOfWrite(t *testing.T) { // P9.3
	for _, l := range goodLeases() {
		b, e := Write(l)
		if e != api.OK {
			t.Fatalf("Write of %s: %d", tell(l), e)
		}
		reads(t, b, l, api.OK)
	}
}

func TestWriteOfRead(t *testing.T) { // P9.3: whatever is read is valid, and written as the bytes that it was read from
	r := rand.New(rand.NewSource(93))
	seen := map[api.Errno]int{}
	for range 60000 {
		b := randomBytes(r)
		before := bytes.Clone(b)
		want, wantE := handRead(b)
		l, e := Read(b)
		seen[e]++
		if l != want || e != wantE || !bytes.Equal(b, before) {
			t.Fatalf("Read of %x: %s, %d, not %s, %d", before, tell(l), e, tell(want), wantE)
		}
		if e != api.OK {
			continue
		}
		if w, e := Write(l); !bytes.Equal(w, b) || e != api.OK || !Right(l) {
			t.Fatalf("Write of Read of %x: %x, %d", b, w, e)
		}
	}
	for _, e := range []api.Errno{api.OK, api.ErrMore, api.ErrForm} {
		if seen[e] < 2000 {
			t.Errorf("%d was answered only %d times", e, seen[e])
		}
	}
}

// randomBytes answers bytes that are those of a lease, or nearly so, or any.
func randomBytes(r *rand.Rand) []byte {
	b := make([]byte, []int{r.Intn(16), 15 + r.Intn(20), 12 + r.Intn(300)}[r.Intn(3)])
	r.Read(b)
	if len(b) < 13 || r.Intn(6) == 0 {
		return b
	}
	b[4] = byte(r.Intn(5))
	b[5] = byte(r.Intn(6))
	b[12] = "iiihx"[r.Intn(5)]
	return b
}

// randomLease answers a lease that is valid, or nearly so.
func randomLease(r *rand.Rand) api.Lease {
	k := make([]byte, 1+[]int{2, 17, 18, 255, 256, r.Intn(20), r.Intn(300)}[r.Intn(7)])
	r.Read(k)
	k[0] = "iiiihx"[r.Intn(6)]
	l := api.Lease{Addr: r.Intn(1 << 32), State: 1 + r.Intn(3), Expiry: r.Intn(1<<50 + 1), Key: string(k)}
	switch r.Intn(9) {
	case 0:
		l.Addr = int(r.Uint64())
	case 1:
		l.State = r.Intn(9) - 3
	case 2:
		l.Expiry = int(r.Uint64())
	}
	return l
}

func TestAnyLease(t *testing.T) { // P9.1, P0: no call panics, and errors come with zero values
	r := rand.New(rand.NewSource(91))
	good := 0
	for range 60000 {
		l := randomLease(r)
		want := handRight(l)
		if Right(l) != want {
			t.Fatalf("Right of %s: %v", tell(l), !want)
		}
		if want {
			good++
			writes(t, l, handBytes(l))
		} else {
			wrongLease(t, l)
		}
	}
	if good < 10000 || good > 50000 {
		t.Errorf("%d of the leases are valid", good)
	}
}

// fill writes one byte all over a slice, its spare capacity included.
func fill(b []byte, with byte) {
	b = b[:cap(b)]
	for i := range b {
		b[i] = with
	}
}

func TestMemory(t *testing.T) { // P0, R3: arguments stay as they are, and answers are memory of their own
	for _, l := range append(goodLeases(), badLeases()[:20]...) {
		first, e := Write(l)
		kept := bytes.Clone(first)
		second, _ := Write(l)
		fill(second, 99)
		if !bytes.Equal(first, kept) {
			t.Errorf("Write of %s answers the same memory twice", tell(l))
		}
		if e != api.OK {
			continue
		}

		roomy := append(make([]byte, 0, len(first)+300), first...)
		fill(roomy[len(first):], 77)
		before := bytes.Clone(roomy[:cap(roomy)])
		got, _ := Read(roomy)
		if !bytes.Equal(roomy[:cap(roomy)], before) {
			t.Errorf("Read of %x changes its argument", first)
		}
		fill(roomy, 99)
		if got != l {
			t.Errorf("Read of %x answers what changes with its argument: %s", first, tell(got))
		}
	}
}

func TestSameAgain(t *testing.T) { // P0, R4: an answer does not depend on calls ahead of it
	for range 2 {
		for _, c := range examples {
			reads(t, []byte(c.b), c.l, api.OK)
			reads(t, []byte(c.b[:11]), api.Lease{}, api.ErrMore)
			writes(t, c.l, []byte(c.b))
			wrongLease(t, api.Lease{})
		}
	}
}
