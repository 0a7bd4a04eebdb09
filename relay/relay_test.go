package relay

import (
	"bytes"
	"math"
	"math/rand"
	"slices"
	"testing"

	"boarder/api"
)

// wrongCodes are codes that are no byte, some of them a byte with bits above it.
var wrongCodes = []int{math.MinInt, -1 << 32, -256, -255, -251, -1, 256, 257, 256 + Link, 512, 1 << 32, 1<<32 + Link, math.MaxInt}

// wrongSizes are lengths of data that one byte can't tell.
var wrongSizes = []int{256, 257, 258, 256 + 4, 511, 512, api.MaxData - 1, api.MaxData, api.MaxData + 1, 1 << 16, 100000}

// someBytes answers n bytes from a fixed seed.
func someBytes(n int) []byte {
	b := make([]byte, n)
	rand.New(rand.NewSource(int64(n) + 1)).Read(b)
	return b
}

// manyParts answers n parts of the codes from first on, with size bytes each.
func manyParts(first, n, size int) []api.Opt {
	var l []api.Opt
	for i := range n {
		l = append(l, api.Opt{Code: first + i, Data: bytes.Repeat([]byte{byte(i + 1)}, size)})
	}
	return l
}

// sizedParts answers two full parts and a third one, which are n bytes in all.
func sizedParts(n int) []api.Opt {
	return []api.Opt{{Code: Circuit, Data: someBytes(255)}, {Code: Remote, Data: someBytes(255)}, {Code: 9, Data: someBytes(n - 2*257 - 2)}}
}

// someLists answers lists that can be written: the edges, and others from a fixed seed.
func someLists() [][]api.Opt {
	ls := [][]api.Opt{
		nil, {}, {{}}, {{}, {}, {}}, {{Code: 255}}, {{Code: 255, Data: []byte{255}}, {Code: 0, Data: []byte{0}}},
		{{Code: Circuit, Data: []byte{7}}, {Code: Link, Data: []byte{10, 0, 0, 1}}},
		{{Code: 9}, {Code: 9, Data: []byte{}}, {Code: 9, Data: []byte{1}}, {Code: 8}, {Code: 9, Data: []byte{1}}},
		{{Code: Link}, {Code: Link, Data: []byte{1, 2, 3, 4}}}, {{Code: Link, Data: []byte{1, 2, 3, 4}}, {Code: Link}},
		make([]api.Opt, api.MaxData/2), manyParts(0, 256, 0), manyParts(56, 200, 1), manyParts(0, 150, 2), manyParts(100, 100, 4),
		sizedParts(api.MaxData - 1), sizedParts(api.MaxData),
	}
	for _, n := range []int{1, 2, 3, 4, 5, 127, 128, 254, 255} {
		ls = append(ls, []api.Opt{{Code: n, Data: someBytes(n)}}, []api.Opt{{Code: 1}, {Code: n, Data: someBytes(n)}, {Code: Link, Data: someBytes(4)}})
	}
	r := rand.New(rand.NewSource(6))
	for range 200 {
		ls = append(ls, randomList(r))
	}
	return ls
}

// randomList answers a list that can be written, often with a code several times.
func randomList(r *rand.Rand) []api.Opt {
	codes := []int{3, 7, 256}[r.Intn(3)]
	room := r.Intn(api.MaxData + 1)
	var l []api.Opt
	for room >= 2 {
		data := make([]byte, []int{0, 1, 2, 3, 4, 4, 5, r.Intn(256)}[r.Intn(8)])
		if len(data)+2 > room {
			break
		}
		r.Read(data)
		l = append(l, api.Opt{Code: (r.Intn(codes) + 4) % 256, Data: data})
		room -= len(data) + 2
	}
	return l
}

// same: are two lists the same, nil and empty ones alike?
func same(l, m []api.Opt) bool {
	return slices.EqualFunc(l, m, func(o, p api.Opt) bool { return o.Code == p.Code && bytes.Equal(o.Data, p.Data) })
}

// copyOf answers a list with memory of its own.
func copyOf(l []api.Opt) []api.Opt {
	var c []api.Opt
	for _, o := range l {
		c = append(c, api.Opt{Code: o.Code, Data: append([]byte(nil), o.Data...)})
	}
	return c
}

// encoded answers the bytes of parts, whatever their number, as the chapter's words say them.
func encoded(l []api.Opt) []byte {
	var b []byte
	for _, o := range l {
		b = slices.Concat(b, []byte{byte(o.Code), byte(len(o.Data))}, o.Data)
	}
	return b
}

// handParts answers what P6.1 says of bytes, gone through one by one.
func handParts(b []byte) ([]api.Opt, api.Errno) {
	if len(b) >= 601 {
		return nil, api.ErrFull
	}
	var l []api.Opt
	code, left := -1, -1 // below 0: not read yet
	for _, x := range b {
		switch {
		case code < 0:
			code = int(x)
			continue
		case left < 0:
			left = int(x)
			l = append(l, api.Opt{Code: code})
		default:
			l[len(l)-1].Data = append(l[len(l)-1].Data, x)
			left--
		}
		if left == 0 {
			code, left = -1, -1
		}
	}
	if code >= 0 {
		return nil, api.ErrForm
	}
	return l, api.OK
}

// handBytes answers what P6.2 says of parts.
func handBytes(l []api.Opt) ([]byte, api.Errno) {
	for _, o := range l {
		if o.Code <= -1 || o.Code >= 256 || len(o.Data) >= 256 {
			return nil, api.ErrArg
		}
	}
	if b := encoded(l); len(b) <= 600 {
		return b, api.OK
	}
	return nil, api.ErrFull
}

// handLink answers what P6.2 says of the link selection.
func handLink(b []byte) (int, bool) {
	l, _ := handParts(b)
	for _, o := range l {
		if o.Code == 5 && len(o.Data) == 4 {
			return int(o.Data[3]) + 256*(int(o.Data[2])+256*(int(o.Data[1])+256*int(o.Data[0]))), true
		}
		if o.Code == 5 {
			break
		}
	}
	return 0, false
}

// has: does Parts answer these parts, and no error?
func has(t *testing.T, b []byte, want ...api.Opt) {
	t.Helper()
	if l, e := Parts(b); !same(l, want) || e != api.OK {
		t.Errorf("Parts of %d bytes, %x: %v, %d, not %v", len(b), b, l, e, want)
	}
}

// refusesParts: does Parts answer just this error, and LinkOf no link?
func refusesParts(t *testing.T, b []byte, want api.Errno) {
	t.Helper()
	if l, e := Parts(b); l != nil || e != want {
		t.Errorf("Parts of %d bytes, %x: %v, %d, not %d", len(b), b[:min(len(b), 12)], l, e, want)
	}
	noLink(t, b)
}

// writes: does Bytes answer these bytes, and no error?
func writes(t *testing.T, l []api.Opt, want []byte) {
	t.Helper()
	if b, e := Bytes(l); !bytes.Equal(b, want) || e != api.OK {
		t.Errorf("Bytes of %v: %x, %d, not %x", l, b, e, want)
	}
}

// refusesBytes: does Bytes answer just this error?
func refusesBytes(t *testing.T, l []api.Opt, want api.Errno) {
	t.Helper()
	if b, e := Bytes(l); b != nil || e != want {
		t.Errorf("Bytes of %d parts: %x, %d, not %d", len(l), b, e, want)
	}
}

// links: does LinkOf answer this address?
func links(t *testing.T, b []byte, want int) {
	t.Helper()
	if a, ok := LinkOf(b); a != want || !ok {
		t.Errorf("LinkOf %x: %d, %v, not %d", b, a, ok, want)
	}
}

// noLink: does LinkOf answer that there is none?
func noLink(t *testing.T, b []byte) {
	t.Helper()
	if a, ok := LinkOf(b); a != 0 || ok {
		t.Errorf("LinkOf %d bytes, %x: %d, %v", len(b), b[:min(len(b), 12)], a, ok)
	}
}

func TestConstants(t *testing.T) { // the chapter's words and functions
	if Code != 82 || Circuit != 1 || Remote != 2 || Link != 5 {
		t.Errorf("constants: %d, %d, %d, %d", Code, Circuit, Remote, Link)
	}
}

func TestParts(t *testing.T) { // P6.1
	has(t, nil)
	has(t, []byte{})
	has(t, []byte{1, 1, 7, 5, 4, 10, 0, 0, 1}, api.Opt{Code: 1, Data: []byte{7}}, api.Opt{Code: 5, Data: []byte{10, 0, 0, 1}})
	has(t, []byte{1, 0}, api.Opt{Code: 1})
	has(t, []byte{1, 0, 2, 0}, api.Opt{Code: 1}, api.Opt{Code: 2})
	has(t, []byte{1, 0, 2, 1, 9, 3, 0}, api.Opt{Code: 1}, api.Opt{Code: 2, Data: []byte{9}}, api.Opt{Code: 3})
	has(t, []byte{2, 3, 1, 1, 1}, api.Opt{Code: 2, Data: []byte{1, 1, 1}}) // data that look like a part
	long := someBytes(255)
	has(t, append([]byte{7, 255}, long...), api.Opt{Code: 7, Data: long})
	has(t, slices.Concat([]byte{7, 255}, long, []byte{8, 1, 3}), api.Opt{Code: 7, Data: long}, api.Opt{Code: 8, Data: []byte{3}})
	for _, l := range someLists() {
		has(t, encoded(l), l...)
	}
}

func TestPartsOfEachCode(t *testing.T) { // P6.1: 0 is no padding and 255 no end
	for c := range 256 {
		has(t, []byte{byte(c), 0}, api.Opt{Code: c})
		has(t, []byte{byte(c), 2, 1, 0}, api.Opt{Code: c, Data: []byte{1, 0}})
	}
	has(t, []byte{0, 0}, api.Opt{})
	has(t, []byte{0, 0, 0, 0}, api.Opt{}, api.Opt{})
	has(t, []byte{0, 1, 0, 255, 1, 255, 3, 0}, api.Opt{Code: 0, Data: []byte{0}}, api.Opt{Code: 255, Data: []byte{255}}, api.Opt{Code: 3})
	for _, b := range [][]byte{{0}, {255}, {0, 0, 0}, {255, 0, 255}, {1, 0, 255}, {1, 1, 7, 0}, {0, 1, 1, 7}} {
		refusesParts(t, b, api.ErrForm)
	}
}

func TestPartsSameCode(t *testing.T) { // P6.1: several parts of one code stay several, in order
	has(t, []byte{9, 1, 3, 9, 1, 2, 9, 0, 9, 1, 2}, api.Opt{Code: 9, Data: []byte{3}}, api.Opt{Code: 9, Data: []byte{2}}, api.Opt{Code: 9}, api.Opt{Code: 9, Data: []byte{2}})
	has(t, []byte{9, 1, 3, 1, 0, 9, 1, 2}, api.Opt{Code: 9, Data: []byte{3}}, api.Opt{Code: 1}, api.Opt{Code: 9, Data: []byte{2}})
	has(t, make([]byte, api.MaxData), make([]api.Opt, api.MaxData/2)...) // more than an option list may have
}

func TestPartsWrong(t *testing.T) { // P6.1: ErrForm
	for c := range 256 {
		refusesParts(t, []byte{byte(c)}, api.ErrForm)          // no length
		refusesParts(t, []byte{1, 1, 7, byte(c)}, api.ErrForm) // none behind a whole part
	}
	for n := 1; n <= 255; n++ {
		for _, less := range []int{1, 2, n} {
			part := append([]byte{7, byte(n)}, someBytes(n)[:max(0, n-less)]...)
			refusesParts(t, part, api.ErrForm)
			refusesParts(t, append([]byte{1, 1, 7}, part...), api.ErrForm)
		}
	}
	for _, l := range someLists() { // cut off within its last part, at each place
		if len(l) == 0 {
			continue
		}
		b, last := encoded(l), len(l)-1
		for i := len(encoded(l[:last])) + 1; i < len(b); i++ {
			refusesParts(t, bytes.Clone(b[:i]), api.ErrForm)
		}
	}
}

func TestPartsFull(t *testing.T) { // P6.1: ErrFull, ahead of ErrForm
	has(t, encoded(sizedParts(api.MaxData-1)), sizedParts(api.MaxData-1)...)
	has(t, encoded(sizedParts(api.MaxData)), sizedParts(api.MaxData)...)
	refusesParts(t, encoded(sizedParts(api.MaxData+1)), api.ErrFull) // well formed
	for _, n := range []int{api.MaxData + 1, api.MaxData + 2, 2 * api.MaxData, 1 << 16, 100000} {
		for _, x := range []byte{0, 5, 255} {
			refusesParts(t, bytes.Repeat([]byte{x}, n), api.ErrFull)
		}
		cutOff := append(make([]byte, n-2+n%2), 1, 255)[:n] // not well formed: no length, or no data
		refusesParts(t, cutOff, api.ErrFull)
	}
	refusesParts(t, append(encoded(sizedParts(api.MaxData)), 5), api.ErrFull)         // no length
	refusesParts(t, append(encoded(sizedParts(api.MaxData-1)), 5, 4), api.ErrFull)    // no data
	refusesParts(t, append(encoded(sizedParts(api.MaxData-1)), 5), api.ErrForm)       // just MaxData bytes
	refusesParts(t, append(encoded(sizedParts(api.MaxData-3)), 5, 2, 1), api.ErrForm) // just MaxData bytes
	refusesParts(t, bytes.Repeat([]byte{255}, api.MaxData), api.ErrForm)
}

func TestPartsHidesCapacity(t *testing.T) { // P6.1: bytes behind the length are none of b's
	b := []byte{1, 1, 7, 5, 4, 10, 0, 0, 1}
	has(t, b[:3], api.Opt{Code: 1, Data: []byte{7}})
	refusesParts(t, b[:8], api.ErrForm)
	refusesParts(t, b[:4], api.ErrForm)
	links(t, b, 10<<24+1)
}

func TestBytes(t *testing.T) { // P6.2
	writes(t, nil, nil)
	writes(t, []api.Opt{}, nil)
	writes(t, []api.Opt{{Code: 1, Data: []byte{7}}, {Code: 5, Data: []byte{10, 0, 0, 1}}}, []byte{1, 1, 7, 5, 4, 10, 0, 0, 1})
	writes(t, []api.Opt{{}}, []byte{0, 0})
	writes(t, []api.Opt{{Code: 255, Data: []byte{}}, {Code: 0, Data: []byte{255}}}, []byte{255, 0, 0, 1, 255})
	writes(t, []api.Opt{{Code: 9, Data: []byte{3}}, {Code: 9, Data: []byte{2}}, {Code: 1}, {Code: 9}}, []byte{9, 1, 3, 9, 1, 2, 1, 0, 9, 0})
	for c := range 256 {
		writes(t, []api.Opt{{Code: c, Data: []byte{1, 2}}}, []byte{byte(c), 2, 1, 2})
	}
	for n := range 256 {
		writes(t, []api.Opt{{Code: 7, Data: someBytes(n)}}, append([]byte{7, byte(n)}, someBytes(n)...))
	}
	for _, l := range someLists() {
		writes(t, l, encoded(l))
	}
}

func TestBytesFull(t *testing.T) { // P6.2: ErrFull
	for _, n := range []int{api.MaxData - 1, api.MaxData} {
		writes(t, sizedParts(n), encoded(sizedParts(n)))
	}
	for _, n := range []int{api.MaxData + 1, api.MaxData + 2, 2*257 + 2 + 255} {
		refusesBytes(t, sizedParts(n), api.ErrFull)
	}
	writes(t, make([]api.Opt, api.MaxData/2), make([]byte, api.MaxData))
	refusesBytes(t, make([]api.Opt, api.MaxData/2+1), api.ErrFull)
	refusesBytes(t, append(sizedParts(api.MaxData), api.Opt{Code: 1}), api.ErrFull)
	refusesBytes(t, append(sizedParts(api.MaxData-1), api.Opt{}), api.ErrFull)
	refusesBytes(t, manyParts(0, 256, 255), api.ErrFull)
	refusesBytes(t, make([]api.Opt, 1<<16), api.ErrFull)
}

func TestBytesWrong(t *testing.T) { // P6.2: ErrArg, for each reason and wherever it stands
	good := []api.Opt{{Code: 1, Data: []byte{7}}, {Code: 5, Data: []byte{10, 0, 0, 1}}}
	var wrong []api.Opt
	for _, c := range wrongCodes {
		wrong = append(wrong, api.Opt{Code: c}, api.Opt{Code: c, Data: []byte{1}}, api.Opt{Code: c, Data: make([]byte, 256)})
	}
	for _, n := range wrongSizes {
		wrong = append(wrong, api.Opt{Code: 0, Data: make([]byte, n)}, api.Opt{Code: 5, Data: make([]byte, n)}, api.Opt{Code: 255, Data: make([]byte, n)})
	}
	for _, o := range wrong {
		refusesBytes(t, []api.Opt{o}, api.ErrArg)
		refusesBytes(t, []api.Opt{o, good[0], good[1]}, api.ErrArg)
		refusesBytes(t, []api.Opt{good[0], o, good[1]}, api.ErrArg)
		refusesBytes(t, []api.Opt{good[0], good[1], o}, api.ErrArg)
		refusesBytes(t, append(sizedParts(api.MaxData+1), o), api.ErrArg) // and the size is wrong too
		refusesBytes(t, append([]api.Opt{o}, sizedParts(api.MaxData+1)...), api.ErrArg)
		refusesBytes(t, append(manyParts(0, 256, 255), o), api.ErrArg)
	}
}

func TestLinkOf(t *testing.T) { // P6.2
	links(t, []byte{1, 1, 7, 5, 4, 10, 0, 0, 1}, 167772161)
	links(t, []byte{5, 4, 0, 0, 0, 0}, 0)
	links(t, []byte{5, 4, 0, 0, 0, 1}, 1)
	links(t, []byte{5, 4, 1, 2, 3, 4}, 0x01020304)
	links(t, []byte{5, 4, 128, 0, 0, 0}, 1<<31)
	links(t, []byte{5, 4, 255, 255, 255, 255}, api.MaxAddr)
	links(t, []byte{0, 0, 255, 0, 5, 4, 1, 2, 3, 4, 0, 0}, 0x01020304)
	for n := range 256 { // only four bytes are an address
		b := append([]byte{5, byte(n)}, bytes.Repeat([]byte{1}, n)...)
		if n == 4 {
			links(t, b, 0x01010101)
		} else {
			noLink(t, b)
		}
	}
	for c := range 256 { // and only the code 5 is a link selection
		b := []byte{byte(c), 4, 1, 2, 3, 4}
		if c == 5 {
			links(t, b, 0x01020304)
		} else {
			noLink(t, b)
		}
	}
	noLink(t, nil)
	noLink(t, []byte{})
	noLink(t, []byte{1, 6, 5, 4, 1, 2, 3, 4}) // the data of another part
}

func TestLinkOfFirst(t *testing.T) { // P6.2: the first link selection counts, of four bytes or not
	links(t, []byte{5, 4, 1, 2, 3, 4, 5, 4, 9, 9, 9, 9}, 0x01020304)
	links(t, []byte{5, 4, 0, 0, 0, 0, 5, 4, 9, 9, 9, 9}, 0)
	links(t, []byte{5, 4, 1, 2, 3, 4, 5, 0, 5, 3, 1, 1, 1}, 0x01020304)
	links(t, []byte{2, 0, 5, 4, 1, 2, 3, 4, 1, 0, 5, 5, 1, 1, 1, 1, 1}, 0x01020304)
	noLink(t, []byte{5, 0, 5, 4, 1, 2, 3, 4})
	noLink(t, []byte{5, 1, 9, 5, 4, 1, 1, 1, 1})
	noLink(t, []byte{5, 3, 1, 2, 3, 5, 4, 1, 2, 3, 4})
	noLink(t, []byte{5, 5, 1, 2, 3, 4, 5, 5, 4, 1, 2, 3, 4})
	noLink(t, []byte{2, 0, 5, 3, 1, 2, 3, 1, 0, 5, 4, 1, 2, 3, 4})
}

func TestLinkOfWrong(t *testing.T) { // P6.2: no link in what Parts refuses
	link := []byte{5, 4, 1, 2, 3, 4}
	links(t, link, 0x01020304)
	for _, tail := range [][]byte{{0}, {1}, {5}, {255}, {1, 1}, {5, 4}, {5, 4, 1, 2, 3}, {1, 255}, {0, 0, 0}} {
		refusesParts(t, append(bytes.Clone(link), tail...), api.ErrForm)
	}
	for i := 1; i < len(link); i++ {
		refusesParts(t, bytes.Clone(link[:i]), api.ErrForm)
	}
	full := slices.Concat(link, make([]byte, api.MaxData-len(link)))
	links(t, full, 0x01020304)
	refusesParts(t, append(full, 0), api.ErrFull)
	refusesParts(t, append(full, 0, 0), api.ErrFull)
}

func TestInverse(t *testing.T) { // P6.3
	for i, l := range someLists() {
		b, e := Bytes(l)
		if e != api.OK {
			t.Fatalf("Bytes of list %d: %d", i, e)
		}
		if m, e := Parts(b); !same(m, l) || e != api.OK {
			t.Errorf("Parts of Bytes of list %d, %v: %v, %d", i, l, m, e)
		}
	}
	r := rand.New(rand.NewSource(7))
	whole := 0
	for range 30000 {
		b := make([]byte, r.Intn(12))
		for i := range b {
			b[i] = byte(r.Intn(6))
		}
		l, e := Parts(b)
		if e != api.OK {
			continue
		}
		whole++
		if c, e := Bytes(l); !bytes.Equal(c, b) || e != api.OK {
			t.Errorf("Bytes of Parts of %x: %x, %d", b, c, e)
		}
	}
	if whole < 3000 {
		t.Errorf("too few bytes that are well formed: %d", whole)
	}
}

func TestInsertedLink(t *testing.T) { // P6.4
	checked := 0
	for i, l := range someLists() {
		if len(encoded(l))+6 > api.MaxData {
			continue
		}
		checked++
		for _, a := range []int{0, 1, 0x01020304, 1 << 31, api.MaxAddr} {
			data := []byte{byte(a >> 24), byte(a >> 16), byte(a >> 8), byte(a)}
			b, e := Bytes(append([]api.Opt{{Code: Link, Data: data}}, l...))
			if got, ok := LinkOf(b); got != a || !ok || e != api.OK {
				t.Errorf("LinkOf list %d behind %d: %d, %v, %d", i, a, got, ok, e)
			}
		}
	}
	if checked < 100 {
		t.Errorf("too few lists: %d", checked)
	}
	for _, n := range []int{api.MaxData - 7, api.MaxData - 6} {
		links(t, append([]byte{5, 4, 10, 0, 0, 1}, encoded(sizedParts(n))...), 10<<24+1)
	}
	refusesParts(t, append([]byte{5, 4, 10, 0, 0, 1}, encoded(sizedParts(api.MaxData-5))...), api.ErrFull)
}

// randomBytes answers bytes that are well formed or nearly so, or any.
func randomBytes(r *rand.Rand) []byte {
	b := encoded(randomList(r))
	switch r.Intn(6) {
	case 0:
		b = b[:r.Intn(len(b)+1)]
	case 1:
		b = append(b, make([]byte, 2*r.Intn(300))...)
	case 2:
		b = make([]byte, r.Intn(700))
		r.Read(b)
	case 3:
		if len(b) > 0 {
			b[r.Intn(len(b))] = byte(r.Intn(8))
		}
	}
	return b
}

func TestAnyBytes(t *testing.T) { // P6.1, P6.2, P0: no call panics, and errors come with zero values
	r := rand.New(rand.NewSource(8))
	seen, found := map[api.Errno]int{}, map[bool]int{}
	for range 20000 {
		b := randomBytes(r)
		want, wantE := handParts(b)
		l, e := Parts(b)
		seen[e]++
		if !same(l, want) || e != wantE || e != api.OK && l != nil {
			t.Fatalf("Parts of %x: %v, %d, not %v, %d", b, l, e, want, wantE)
		}
		link, wantOK := handLink(b)
		a, ok := LinkOf(b)
		found[ok]++
		if a != link || ok != wantOK {
			t.Fatalf("LinkOf %x: %d, %v, not %d, %v", b, a, ok, link, wantOK)
		}
	}
	if seen[api.OK] < 500 || seen[api.ErrForm] < 500 || seen[api.ErrFull] < 500 || found[true] < 500 || found[false] < 500 {
		t.Errorf("too few of one kind: %v, %v", seen, found)
	}
}

func TestAnyParts(t *testing.T) { // P6.2, P0: no call panics, and errors come with zero values
	r := rand.New(rand.NewSource(9))
	seen := map[api.Errno]int{}
	for range 6000 {
		l := append(randomList(r), manyParts(r.Intn(3), r.Intn(4)*r.Intn(80), r.Intn(6))...)
		if r.Intn(4) == 0 {
			l = slices.Insert(l, r.Intn(len(l)+1), api.Opt{Code: wrongCodes[r.Intn(len(wrongCodes))], Data: someBytes(r.Intn(9))})
		}
		if r.Intn(4) == 0 {
			l = slices.Insert(l, r.Intn(len(l)+1), api.Opt{Code: r.Intn(256), Data: make([]byte, 250+r.Intn(12))})
		}
		want, wantE := handBytes(l)
		b, e := Bytes(l)
		seen[e]++
		if !bytes.Equal(b, want) || e != wantE || e != api.OK && b != nil {
			t.Fatalf("Bytes of %v: %x, %d, not %x, %d", l, b, e, want, wantE)
		}
	}
	if seen[api.OK] < 500 || seen[api.ErrArg] < 500 || seen[api.ErrFull] < 500 {
		t.Errorf("too few of one kind: %v", seen)
	}
}

// fill writes one byte all over a slice, its spare capacity included.
func fill(b []byte, with byte) {
	b = b[:cap(b)]
	for i := range b {
		b[i] = with
	}
}

// roomyBytes answers a copy of bytes with spare capacity, and what checks that none of it has changed.
func roomyBytes(b []byte) ([]byte, func() bool) {
	c := append(make([]byte, 0, len(b)+50), b...)
	fill(c[len(c):], 77)
	before := bytes.Clone(c[:cap(c)])
	return c, func() bool { return bytes.Equal(c[:cap(c)], before) }
}

// roomy answers a copy of a list with spare capacity all over, and what checks that none of it has changed.
func roomy(l []api.Opt) ([]api.Opt, func() bool) {
	c := make([]api.Opt, 0, len(l)+5)
	for _, o := range l {
		data, _ := roomyBytes(o.Data)
		c = append(c, api.Opt{Code: o.Code, Data: data})
	}
	spare := c[len(c):cap(c)]
	for i := range spare {
		spare[i] = api.Opt{Code: 1000 + i, Data: []byte{78}}
	}
	whole := func() []api.Opt {
		var w []api.Opt
		for _, o := range c[:cap(c)] {
			w = append(w, api.Opt{Code: o.Code, Data: o.Data[:cap(o.Data)]})
		}
		return w
	}
	before := copyOf(whole())
	return c, func() bool { return same(whole(), before) }
}

// spoil writes all over a list and its data, and tells whether no two of the data share memory.
func spoil(l []api.Opt) bool {
	for i, o := range l {
		fill(o.Data, byte(i))
	}
	apart := true
	for i, o := range l {
		for _, x := range o.Data[:cap(o.Data)] {
			apart = apart && x == byte(i)
		}
	}
	l = l[:cap(l)]
	for i := range l {
		l[i] = api.Opt{Code: -9}
	}
	return apart
}

func TestMemory(t *testing.T) { // P0, R3: arguments stay as they are, and answers are memory of their own
	for i, s := range someLists() {
		whole := encoded(s)
		for _, given := range [][]byte{whole, append(whole, 5), append(whole, make([]byte, api.MaxData+1)...)} {
			b, bytesStay := roomyBytes(given)
			l, _ := Parts(b)
			LinkOf(b)
			if !spoil(l) {
				t.Errorf("Parts of the bytes of list %d: two of the data share memory", i)
			}
			if !bytesStay() {
				t.Errorf("a call shares or changes the bytes of list %d", i)
			}
		}
		for _, more := range [][]api.Opt{nil, {{Code: 256, Data: []byte{1}}}, sizedParts(api.MaxData)} {
			l, stays := roomy(slices.Concat(s, more))
			b, _ := Bytes(l)
			fill(b, 99)
			if !stays() {
				t.Errorf("Bytes shares or changes list %d", i)
			}
		}
	}
}

func TestKeepsNothing(t *testing.T) { // P0, R3: an answer stays as it is while its arguments change
	b := []byte{1, 1, 7, 5, 4, 10, 0, 0, 1}
	l, _ := Parts(b)
	fill(b, 99)
	if !same(l, []api.Opt{{Code: 1, Data: []byte{7}}, {Code: 5, Data: []byte{10, 0, 0, 1}}}) {
		t.Errorf("Parts keeps its bytes: %v", l)
	}
	c, _ := Bytes(l)
	spoil(l)
	if !bytes.Equal(c, []byte{1, 1, 7, 5, 4, 10, 0, 0, 1}) {
		t.Errorf("Bytes keeps its parts: %x", c)
	}
}

func TestAppend(t *testing.T) { // P0, R3: data that grow leave the next part as it is
	for i, s := range someLists() {
		l, e := Parts(encoded(s))
		if e != api.OK {
			t.Fatalf("Parts of the bytes of list %d: %d", i, e)
		}
		before := copyOf(l)
		for _, o := range l {
			_ = append(o.Data, 99, 99, 99)
		}
		if !same(l, before) {
			t.Errorf("append to the data of list %d changes others: %v", i, l)
		}
	}
}

func TestSharedArguments(t *testing.T) { // P0, R3: parts may share memory with one another
	data := []byte{1, 2, 3, 4}
	l := []api.Opt{{Code: 1, Data: data}, {Code: 5, Data: data}, {Code: 2, Data: data[1:3]}, {Code: 3, Data: data[:0]}}
	writes(t, l, []byte{1, 4, 1, 2, 3, 4, 5, 4, 1, 2, 3, 4, 2, 2, 2, 3, 3, 0})
	if string(data) != "\x01\x02\x03\x04" {
		t.Errorf("Bytes changes its data: %x", data)
	}
}

func TestSameAgain(t *testing.T) { // P0, R4
	r := rand.New(rand.NewSource(10))
	for range 300 {
		b := randomBytes(r)
		l, e := Parts(b)
		a, ok := LinkOf(b)
		m, e2 := Parts(append(make([]byte, 0, 2000), b...))
		a2, ok2 := LinkOf(bytes.Clone(b))
		if !same(l, m) || e != e2 || a != a2 || ok != ok2 {
			t.Errorf("%x is answered otherwise the second time", b)
		}
		c, e := Bytes(l)
		d, e2 := Bytes(copyOf(l))
		if !bytes.Equal(c, d) || e != e2 {
			t.Errorf("Bytes of %v is answered otherwise the second time", l)
		}
	}
}

func TestExample(t *testing.T) { // the chapter's example
	b := []byte{1, 1, 7, 5, 4, 10, 0, 0, 1}
	has(t, b, api.Opt{Code: Circuit, Data: []byte{7}}, api.Opt{Code: Link, Data: []byte{10, 0, 0, 1}})
	links(t, b, 167772161)
}
