package code

import (
	"bytes"
	"hash/crc32"
	"math"
	"math/big"
	"math/rand"
	"slices"
	"testing"

	"boarder/api"
)

// edgeNumbers are numbers at and beyond the edges of values, of places and of counts of bytes.
func edgeNumbers() []int {
	l := []int{math.MinInt, math.MinInt + 1, math.MinInt + 7, math.MaxInt - 7, math.MaxInt - 6, math.MaxInt - 1, math.MaxInt}
	for i := range 63 {
		for d := -1; d <= 1; d++ {
			l = append(l, 1<<i+d, -(1<<i + d))
		}
	}
	return l
}

// wrongWidths are numbers of bytes that no number has.
var wrongWidths = []int{math.MinInt, -8, -7, -1, 0, 8, 9, 16, 64, math.MaxInt}

// power answers 256^n by multiplying.
func power(n int) int {
	p := 1
	for range n {
		p *= 256
	}
	return p
}

// someValues answers numbers that n bytes hold: the edges, and others from a fixed seed.
func someValues(n int) []int {
	top := power(n)
	l := []int{0, 1, 127, 128, 255, top/2 - 1, top / 2, top - 2, top - 1}
	r := rand.New(rand.NewSource(int64(n)))
	for range 50 {
		l = append(l, r.Intn(top))
	}
	return l
}

// someBytes answers n bytes from a fixed seed.
func someBytes(n int) []byte {
	b := make([]byte, n)
	rand.New(rand.NewSource(int64(n))).Read(b)
	return b
}

// someStrings answers byte strings of lengths at and between the edges of a frame's.
func someStrings() [][]byte {
	l := [][]byte{nil, {}, {0}, {255}, []byte("hay"), []byte("123456789"), make([]byte, 40), bytes.Repeat([]byte{255}, 40)}
	for _, n := range []int{1, 2, 3, 4, 5, 6, 7, 100, 255, 256, 257, 511, 512, MaxFrame - 1, MaxFrame} {
		l = append(l, someBytes(n))
	}
	return append(l, make([]byte, MaxFrame))
}

// handFrame answers a frame that is built here by hand, with the library's checksum.
func handFrame(b []byte) []byte {
	s := crc32.ChecksumIEEE(b)
	head := []byte{byte(len(b) / 256), byte(len(b) % 256), byte(s >> 24), byte(s >> 16), byte(s >> 8), byte(s)}
	return append(head, b...)
}

func TestPut(t *testing.T) { // P2.1
	for _, c := range []struct {
		v, n int
		want string
	}{
		{258, 4, "\x00\x00\x01\x02"}, {0, 1, "\x00"}, {255, 1, "\xff"}, {256, 2, "\x01\x00"}, {0x010203, 3, "\x01\x02\x03"},
		{0, 7, "\x00\x00\x00\x00\x00\x00\x00"}, {1<<56 - 1, 7, "\xff\xff\xff\xff\xff\xff\xff"},
		{0x01020304050607, 7, "\x01\x02\x03\x04\x05\x06\x07"}, {api.MaxAddr, 4, "\xff\xff\xff\xff"},
	} {
		if b, e := Put(c.v, c.n); string(b) != c.want || e != api.OK {
			t.Errorf("Put(%d, %d): %x, %d", c.v, c.n, b, e)
		}
	}
	for n := 1; n <= 7; n++ {
		for _, v := range someValues(n) {
			want := big.NewInt(int64(v)).FillBytes(make([]byte, n))
			if b, e := Put(v, n); !bytes.Equal(b, want) || e != api.OK {
				t.Errorf("Put(%d, %d): %x, %d", v, n, b, e)
			}
		}
	}
}

func TestPutWrong(t *testing.T) { // P2.1
	check := func(v, n int) {
		if b, e := Put(v, n); b != nil || e != api.ErrArg {
			t.Errorf("Put(%d, %d): %x, %d", v, n, b, e)
		}
	}
	for _, n := range wrongWidths {
		for _, v := range []int{0, 1, 255, -1, math.MinInt, math.MaxInt} {
			check(v, n)
		}
	}
	for n := 1; n <= 7; n++ {
		for _, v := range []int{math.MinInt, -power(n), -256, -1, power(n), power(n) + 1, 2 * power(n), math.MaxInt} {
			check(v, n)
		}
	}
}

func TestGet(t *testing.T) { // P2.1
	b := []byte{1, 2, 3, 4, 5, 6, 7, 255, 255, 255, 255, 255, 255, 255, 0, 0, 9}
	for _, c := range []struct{ at, n, want int }{
		{0, 1, 1}, {0, 2, 258}, {0, 7, 0x01020304050607}, {7, 7, 1<<56 - 1}, {7, 1, 255}, {6, 2, 0x07ff},
		{14, 2, 0}, {14, 3, 9}, {16, 1, 9}, {10, 7, 0xffffffff000009},
	} {
		if v, e := Get(b, c.at, c.n); v != c.want || e != api.OK {
			t.Errorf("Get at %d, %d: %d, %d", c.at, c.n, v, e)
		}
	}
}

func TestGetEachPlace(t *testing.T) { // P2.1
	for size := range 20 {
		b := someBytes(size)
		for at := range size + 3 {
			for n := 1; n <= 7; n++ {
				v, e := Get(b, at, n)
				if at+n > size {
					if v != 0 || e != api.ErrMore {
						t.Errorf("Get of %d bytes at %d, %d: %d, %d", size, at, n, v, e)
					}
				} else if want := int(new(big.Int).SetBytes(b[at : at+n]).Int64()); v != want || e != api.OK {
					t.Errorf("Get of %x at %d, %d: %d, %d", b, at, n, v, e)
				}
			}
		}
	}
}

func TestGetWrong(t *testing.T) { // P2.1: ErrArg ahead of ErrMore
	for _, b := range [][]byte{nil, {}, {1}, someBytes(20)} {
		for _, n := range wrongWidths {
			for _, at := range edgeNumbers() {
				if v, e := Get(b, at, n); v != 0 || e != api.ErrArg {
					t.Errorf("Get of %x at %d, %d: %d, %d", b, at, n, v, e)
				}
			}
		}
		for n := 1; n <= 7; n++ {
			for _, at := range []int{math.MinInt, math.MinInt + 7, -8, -7, -1} {
				if v, e := Get(b, at, n); v != 0 || e != api.ErrArg {
					t.Errorf("Get of %x at %d, %d: %d, %d", b, at, n, v, e)
				}
			}
			for _, at := range []int{20, 21, 1 << 31, 1 << 62, math.MaxInt - 7, math.MaxInt - 1, math.MaxInt} {
				if v, e := Get(b, at, n); v != 0 || e != api.ErrMore {
					t.Errorf("Get of %x at %d, %d: %d, %d", b, at, n, v, e)
				}
			}
		}
	}
}

func TestGetHidesCapacity(t *testing.T) { // P2.1: bytes behind the length are none of b's
	b := someBytes(10)[:4]
	if v, e := Get(b, 1, 4); v != 0 || e != api.ErrMore {
		t.Errorf("Get: %d, %d", v, e)
	}
	f := handFrame([]byte("hay"))
	if x, n, e := Open(f[:8]); x != nil || n != 0 || e != api.ErrMore {
		t.Errorf("Open: %x, %d, %d", x, n, e)
	}
}

func TestGetOfPut(t *testing.T) { // P2.4
	for n := 1; n <= 7; n++ {
		for _, v := range someValues(n) {
			b, e := Put(v, n)
			if e != api.OK {
				t.Fatalf("Put(%d, %d): %d", v, n, e)
			}
			if got, e := Get(b, 0, n); got != v || e != api.OK {
				t.Errorf("Get of Put(%d, %d): %d, %d", v, n, got, e)
			}
			among := slices.Concat([]byte{7, 8, 9}, b, []byte{1})
			if got, e := Get(among, 3, n); got != v || e != api.OK {
				t.Errorf("Get of Put(%d, %d) among others: %d, %d", v, n, got, e)
			}
		}
	}
}

func TestSum(t *testing.T) { // P2.2
	for _, c := range []struct {
		s    string
		want uint32
	}{
		{"", 0}, {"123456789", 0xcbf43926}, {"a", 0xe8b7be43}, {"\x00", 0xd202ef8d}, {"\xff", 0xff000000},
		{"\x00\x00\x00\x00", 0x2144df1c}, {"\xff\xff\xff\xff", 0xffffffff},
	} {
		if got := Sum([]byte(c.s)); got != c.want {
			t.Errorf("Sum(%q): %x", c.s, got)
		}
	}
	for i := range 256 {
		if b := []byte{byte(i)}; Sum(b) != crc32.ChecksumIEEE(b) {
			t.Errorf("Sum(%x): %x", b, Sum(b))
		}
	}
	for _, b := range append(someStrings(), someBytes(MaxFrame+1), someBytes(100000)) {
		if got := Sum(b); got != crc32.ChecksumIEEE(b) {
			t.Errorf("Sum of %d bytes: %x", len(b), got)
		}
	}
}

func TestFrame(t *testing.T) { // P2.2
	if MaxFrame != 2000 {
		t.Errorf("MaxFrame: %d", MaxFrame)
	}
	if f, e := Frame(nil); string(f) != "\x00\x00\x00\x00\x00\x00" || e != api.OK {
		t.Errorf("Frame of nothing: %x, %d", f, e)
	}
	if f, e := Frame([]byte("123456789")); string(f) != "\x00\x09\xcb\xf4\x39\x26123456789" || e != api.OK {
		t.Errorf("Frame: %x, %d", f, e)
	}
	for _, b := range someStrings() {
		if f, e := Frame(b); !bytes.Equal(f, handFrame(b)) || e != api.OK {
			t.Errorf("Frame of %d bytes: %x, %d", len(b), f, e)
		}
	}
	for _, n := range []int{MaxFrame + 1, MaxFrame + 2, 1<<16 - 1, 1 << 16, 1<<16 + 1, 1 << 20} {
		if f, e := Frame(make([]byte, n)); f != nil || e != api.ErrArg {
			t.Errorf("Frame of %d bytes: %d bytes, %d", n, len(f), e)
		}
	}
}

func TestOpen(t *testing.T) { // P2.3, P2.5
	for _, b := range someStrings() {
		f := handFrame(b)
		for _, tail := range [][]byte{nil, {0}, {255}, f, someBytes(300)} {
			x, n, e := Open(slices.Concat(f, tail))
			if !bytes.Equal(x, b) || n != len(f) || e != api.OK {
				t.Errorf("Open of %d bytes and %d more: %x, %d, %d", len(b), len(tail), x, n, e)
			}
		}
		made, e := Frame(b)
		if e != api.OK {
			t.Fatalf("Frame of %d bytes: %d", len(b), e)
		}
		if x, n, e := Open(made); !bytes.Equal(x, b) || n != len(b)+6 || e != api.OK {
			t.Errorf("Open of Frame of %d bytes: %x, %d, %d", len(b), x, n, e)
		}
	}
}

func TestOpenOneAfterTheOther(t *testing.T) { // P2.5
	var all []byte
	for _, b := range someStrings() {
		f, e := Frame(b)
		if e != api.OK {
			t.Fatalf("Frame of %d bytes: %d", len(b), e)
		}
		all = append(all, f...)
	}
	for i, b := range someStrings() {
		x, n, e := Open(all)
		if !bytes.Equal(x, b) || n != len(b)+6 || e != api.OK {
			t.Fatalf("Open of frame %d: %x, %d, %d", i, x, n, e)
		}
		all = all[n:]
	}
	if len(all) != 0 {
		t.Errorf("%d bytes are left", len(all))
	}
}

func TestOpenOfPrefixes(t *testing.T) { // P2.6
	for _, b := range someStrings() {
		f, e := Frame(b)
		if e != api.OK {
			t.Fatalf("Frame of %d bytes: %d", len(b), e)
		}
		for i := range len(f) {
			if x, n, e := Open(bytes.Clone(f[:i])); x != nil || n != 0 || e != api.ErrMore {
				t.Errorf("Open of %d bytes of %d: %x, %d, %d", i, len(f), x, n, e)
			}
		}
	}
}

// wrongFrame: does Open answer just this error?
func wrongFrame(t *testing.T, b []byte, want api.Errno) {
	t.Helper()
	if x, n, e := Open(b); x != nil || n != 0 || e != want {
		t.Errorf("Open of %d bytes, %x: %x, %d, %d, not %d", len(b), b[:min(len(b), 8)], x, n, e, want)
	}
}

func TestOpenWrong(t *testing.T) { // P2.3: the first of its errors
	for n := range 6 { // too short is told ahead of too long
		wrongFrame(t, bytes.Repeat([]byte{255}, n), api.ErrMore)
		wrongFrame(t, make([]byte, n), api.ErrMore)
	}
	wrongFrame(t, nil, api.ErrMore)
	for _, length := range []int{MaxFrame + 1, MaxFrame + 2, 0x1000, 1<<16 - 1} {
		head := []byte{byte(length >> 8), byte(length), 1, 2, 3, 4}
		wrongFrame(t, head, api.ErrForm) // too long is told ahead of incomplete
		whole := append(head, make([]byte, length)...)
		wrongFrame(t, whole, api.ErrForm) // and ahead of a wrong sum
		copy(whole, handFrame(whole[6:])[:6])
		wrongFrame(t, whole, api.ErrForm) // and where all the rest is right
	}
	for _, length := range []int{1, 2, 255, 256, MaxFrame} {
		head := []byte{byte(length >> 8), byte(length), 1, 2, 3, 4}
		wrongFrame(t, head, api.ErrMore)
		wrongFrame(t, append(head, make([]byte, length-1)...), api.ErrMore) // incomplete is told ahead of a wrong sum
		wrongFrame(t, append(head, make([]byte, length)...), api.ErrSum)
		wrongFrame(t, append(head, make([]byte, length+1)...), api.ErrSum)
	}
}

func TestOpenWrongSum(t *testing.T) { // P2.3
	for _, b := range someStrings() {
		for i := 16; i < 48; i++ {
			f := handFrame(b)
			f[i/8] ^= 1 << (i % 8)
			wrongFrame(t, f, api.ErrSum)
			wrongFrame(t, append(f, 1, 2, 3), api.ErrSum)
		}
	}
}

// invert turns the bits of a pattern from one place on, where a byte's lowest bit is its first one.
func invert(b []byte, at int, pattern uint32) bool {
	turned := false
	for i := range 32 {
		if p := at + i; pattern>>i&1 == 1 && p < 8*len(b) {
			b[p/8] ^= 1 << (p % 8)
			turned = true
		}
	}
	return turned
}

func TestOpenOfTurnedBits(t *testing.T) { // P2.7
	r := rand.New(rand.NewSource(7))
	patterns := []uint32{1, 3, 1 << 31, 1<<31 + 1, 1<<32 - 1, 0xedb88320, 0x80000003, 0x00ff0000, 0x55555555, 0xaaaaaaaa}
	for range 20 {
		patterns = append(patterns, r.Uint32())
	}
	for _, b := range someStrings() {
		step := 1 + len(b)/12
		for at := 0; at < 8*len(b); at += step {
			for _, p := range patterns {
				f := handFrame(b)
				if invert(f[6:], at, p) {
					wrongFrame(t, f, api.ErrSum)
				}
			}
		}
	}
}

func TestSumDetectsTurnedBits(t *testing.T) { // P2.7, with the sum that Frame writes
	f, e := Frame(someBytes(24))
	if e != api.OK {
		t.Fatalf("Frame: %d", e)
	}
	for first := 6 * 8; first < 8*len(f); first++ {
		for last := first; last < min(first+32, 8*len(f)); last++ {
			g := bytes.Clone(f)
			g[first/8] ^= 1 << (first % 8)
			if last != first {
				g[last/8] ^= 1 << (last % 8)
			}
			wrongFrame(t, g, api.ErrSum)
		}
	}
}

func TestAnyNumbers(t *testing.T) { // P0: no call panics, and errors come with zero values
	strings := [][]byte{nil, {}, {1, 2, 3}, someBytes(300)}
	for _, v := range edgeNumbers() {
		for _, n := range edgeNumbers() {
			b, e := Put(v, n)
			if (e == api.OK) != (len(b) == n && n >= 1 && n <= 7) || e != api.OK && b != nil {
				t.Errorf("Put(%d, %d): %x, %d", v, n, b, e)
			}
			for _, s := range strings {
				if got, e := Get(s, v, n); e != api.OK && got != 0 {
					t.Errorf("Get of %d bytes at %d, %d: %d, %d", len(s), v, n, got, e)
				}
			}
		}
	}
}

func TestAnyBytes(t *testing.T) { // P0
	r := rand.New(rand.NewSource(3))
	for range 20000 {
		b := make([]byte, r.Intn(40))
		r.Read(b)
		if len(b) > 1 && r.Intn(2) == 0 {
			b[0], b[1] = 0, byte(r.Intn(40))
		}
		x, n, e := Open(b)
		if e != api.OK && (x != nil || n != 0) || e == api.OK && !bytes.Equal(handFrame(x), b[:n]) {
			t.Errorf("Open(%x): %x, %d, %d", b, x, n, e)
		}
	}
}

// fill writes one byte all over a slice, its spare capacity included.
func fill(b []byte, with byte) {
	b = b[:cap(b)]
	for i := range b {
		b[i] = with
	}
}

func TestMemory(t *testing.T) { // P0, R3: arguments stay as they are, and answers are memory of their own
	for _, s := range someStrings() {
		roomy := append(make([]byte, 0, len(s)+50), s...)
		fill(roomy[len(s):], 77)
		before := bytes.Clone(roomy[:cap(roomy)])
		f, e := Frame(roomy)
		if e != api.OK {
			t.Fatalf("Frame of %d bytes: %d", len(s), e)
		}
		Sum(roomy)
		Get(roomy, 1, 2)
		fill(f, 99)
		if !bytes.Equal(roomy[:cap(roomy)], before) {
			t.Errorf("Frame of %d bytes shares or changes its argument", len(s))
		}

		framed := append(make([]byte, 0, len(s)+90), handFrame(s)...)
		framed = append(framed, 5, 6, 7)
		before = bytes.Clone(framed[:cap(framed)])
		x, _, e := Open(framed)
		if e != api.OK {
			t.Fatalf("Open of %d bytes: %d", len(s), e)
		}
		fill(x, 99)
		if !bytes.Equal(framed[:cap(framed)], before) {
			t.Errorf("Open of %d bytes shares or changes its argument", len(s))
		}
	}
	b, _ := Put(258, 4)
	fill(b, 99)
	if c, e := Put(258, 4); string(c) != "\x00\x00\x01\x02" || e != api.OK {
		t.Errorf("Put after a change of its answer: %x, %d", c, e)
	}
}

func TestSameAgain(t *testing.T) { // P0, R4
	for _, s := range someStrings() {
		f, _ := Frame(s)
		g, _ := Frame(s)
		if !bytes.Equal(f, g) || Sum(s) != Sum(bytes.Clone(s)) {
			t.Errorf("Frame of %d bytes answers another frame the second time", len(s))
		}
	}
}
