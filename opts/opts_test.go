package opts

import (
	"bytes"
	"math"
	"math/big"
	"math/rand"
	"slices"
	"testing"

	"boarder/api"
	"boarder/tlv"
)

// wrongCodes are codes that no valid option has, some of them a valid one's with bits above it.
var wrongCodes = []int{math.MinInt, -256, -255, -53, -1, 0, 255, 256, 257, 256 + Kind, 256 + Params, 1 << 32, 1<<32 + Time, math.MaxInt}

// someCodes are valid codes: the edges, those with a name, and neighbours.
var someCodes = []int{1, 2, Router, 12, Wanted, Time, 52, Kind, Server, Params, 56, Client, Subnet, 127, 128, 253, 254}

// widths are numbers of bytes that code.Put takes.
var widths = []int{1, 2, 3, 4, 5, 6, 7}

// wrongWidths are numbers of bytes that code.Put refuses.
var wrongWidths = []int{math.MinInt, -4, -1, 0, 8, 9, 16, 256 + 4, 1<<32 + 4, math.MaxInt}

// someBytes answers n bytes from a fixed seed.
func someBytes(n int) []byte {
	b := make([]byte, n)
	rand.New(rand.NewSource(int64(n) + 1)).Read(b)
	return b
}

// someData answers data of lengths at and between the edges.
func someData() [][]byte {
	ds := [][]byte{nil, {}, {0}, {1}, {255}, {0, 0}, {1, 3, 51}, {0, 0, 2, 88}, {255, 255, 255, 255}, {0, 0, 0, 0, 0}}
	for _, n := range []int{5, 255, 256, api.MaxData - 1, api.MaxData} {
		ds = append(ds, someBytes(n))
	}
	return ds
}

// allBytes answers each byte once, in order.
func allBytes() []byte {
	var b []byte
	for x := range 256 {
		b = append(b, byte(x))
	}
	return b
}

// handLists answers lists at the edges: valid ones, and such as no message may have.
func handLists() [][]api.Opt {
	ls := [][]api.Opt{
		nil, {}, {{}}, {{}, {}}, make([]api.Opt, 300),
		{{Code: Kind, Data: []byte{5}}}, {{Code: Kind}, {Code: Kind, Data: []byte{5}}}, {{Code: Kind, Data: []byte{5}}, {Code: Kind}},
		{{Code: Time, Data: []byte{0, 0, 2, 88}}, {Code: Kind, Data: []byte{3}}, {Code: Params, Data: []byte{1, 3, 51}}},
		{{Code: Time, Data: []byte{1, 2, 3}}, {Code: 9}, {Code: Time, Data: []byte{1, 2, 3, 4}}, {Code: Time}},
		{{Code: Params}, {Code: 7, Data: []byte{8}}, {Code: Params, Data: []byte{7, 7}}},
		{{Code: Params, Data: []byte{51, 1, 51, 0, 255, 1}}, {Code: Params, Data: []byte{3}}},
		{{Code: Params, Data: allBytes()}}, {{Code: 9, Data: someBytes(api.MaxData + 1)}, {Code: Kind, Data: someBytes(100000)}},
		{{Code: Time, Data: someBytes(4)}, {Code: Time, Data: someBytes(4)}, {Code: Time, Data: someBytes(4)}},
	}
	for _, c := range append(someCodes, wrongCodes...) {
		ls = append(ls, []api.Opt{{Code: c}}, []api.Opt{{Code: c, Data: someBytes(4)}, {Code: 7}, {Code: c, Data: []byte{1}}})
	}
	for k := range 10 {
		ls = append(ls, []api.Opt{{Code: Kind, Data: []byte{byte(k)}}}, []api.Opt{{Code: 7, Data: []byte{byte(k)}}, {Code: Kind, Data: []byte{byte(k)}}})
	}
	var many []api.Opt
	for c := -5; c < 270; c++ {
		many = append(many, api.Opt{Code: c, Data: someBytes(max(0, c%6))})
	}
	return append(ls, many, many[6:6+api.MaxOpts], many[6:7+api.MaxOpts])
}

// randomList answers a list of few codes or many, often with a code several times.
func randomList(r *rand.Rand) []api.Opt {
	codes := [][]int{{Kind, Params, Time}, someCodes, slices.Concat(someCodes, wrongCodes)}[r.Intn(3)]
	var l []api.Opt
	for range r.Intn(12) {
		data := make([]byte, []int{0, 1, 1, 2, 3, 4, 4, 4, 5, 300}[r.Intn(10)])
		r.Read(data)
		if r.Intn(2) == 0 {
			for i := range data {
				data[i] %= 11
			}
		}
		l = append(l, api.Opt{Code: codes[r.Intn(len(codes))], Data: data})
	}
	return l
}

// someLists answers the lists at the edges, and others from a fixed seed.
func someLists() [][]api.Opt {
	ls := handLists()
	r := rand.New(rand.NewSource(5))
	for range 300 {
		ls = append(ls, randomList(r))
	}
	return ls
}

// same: are two lists the same, nil and empty ones alike?
func same(l, m []api.Opt) bool {
	return slices.EqualFunc(l, m, func(o, p api.Opt) bool { return o.Code == p.Code && bytes.Equal(o.Data, p.Data) })
}

// copyOf answers a list with memory of its own.
func copyOf(l []api.Opt) []api.Opt {
	var c []api.Opt
	for _, o := range l {
		c = append(c, api.Opt{Code: o.Code, Data: append([]byte(nil), o.Data...)})
	}
	return c
}

// first answers the data of the first option with a code.
func first(l []api.Opt, at int) ([]byte, bool) {
	for i := range l {
		if l[i].Code == at {
			return l[i].Data, true
		}
	}
	return nil, false
}

// others answers the options with other codes.
func others(l []api.Opt, at int) []api.Opt {
	var o []api.Opt
	for i := range l {
		if l[i].Code != at {
			o = append(o, l[i])
		}
	}
	return o
}

// handKind answers what P5.1 says of the option Kind.
func handKind(l []api.Opt) int {
	data, _ := first(l, 53)
	for k := 1; k <= 8; k++ {
		if string(data) == string([]byte{byte(k)}) {
			return k
		}
	}
	return 0
}

// handNumber answers what P5.1 says of a number.
func handNumber(l []api.Opt, at int) (int, bool) {
	data, _ := first(l, at)
	if len(data) != 4 {
		return 0, false
	}
	return int(data[3]) + 256*(int(data[2])+256*(int(data[1])+256*int(data[0]))), true
}

// handPut answers the bytes of a number, worked out by big numbers.
func handPut(v, n int) []byte {
	return big.NewInt(int64(v)).FillBytes(make([]byte, n))
}

// handKeep answers what P5.2 says of options and bytes.
func handKeep(l []api.Opt, at int, b []byte) ([]api.Opt, api.Errno) {
	if at <= 0 || at >= 255 || len(b) >= 601 {
		return nil, api.ErrArg
	}
	return append(others(l, at), api.Opt{Code: at, Data: b}), api.OK
}

// handSet answers what P5.2 says of options and a number.
func handSet(l []api.Opt, at, v, n int) ([]api.Opt, api.Errno) {
	if n <= 0 || n >= 8 || v < 0 || big.NewInt(int64(v)).BitLen() > 8*n {
		return nil, api.ErrArg
	}
	return handKeep(l, at, handPut(v, n))
}

// keeps: does Keep answer this list, and no error?
func keeps(t *testing.T, l []api.Opt, at int, b []byte, want []api.Opt) {
	t.Helper()
	if got, e := Keep(l, at, b); !same(got, want) || e != api.OK {
		t.Errorf("Keep(%v, %d, %d bytes): %v, %d, not %v", l, at, len(b), got, e, want)
	}
}

// refusesKeep: does Keep answer ErrArg, and nothing else?
func refusesKeep(t *testing.T, l []api.Opt, at int, b []byte) {
	t.Helper()
	if got, e := Keep(l, at, b); got != nil || e != api.ErrArg {
		t.Errorf("Keep(%v, %d, %d bytes): %v, %d", l, at, len(b), got, e)
	}
}

// sets: does Set answer this list, and no error?
func sets(t *testing.T, l []api.Opt, at, v, n int, want []api.Opt) {
	t.Helper()
	if got, e := Set(l, at, v, n); !same(got, want) || e != api.OK {
		t.Errorf("Set(%v, %d, %d, %d): %v, %d, not %v", l, at, v, n, got, e, want)
	}
}

// refusesSet: does Set answer ErrArg, and nothing else?
func refusesSet(t *testing.T, l []api.Opt, at, v, n int) {
	t.Helper()
	if got, e := Set(l, at, v, n); got != nil || e != api.ErrArg {
		t.Errorf("Set(%v, %d, %d, %d): %v, %d", l, at, v, n, got, e)
	}
}

func TestConstants(t *testing.T) { // the chapter's words
	kinds := []int{Discover, Offer, Request, Decline, Ack, Nak, Release, Inform}
	if !slices.Equal(kinds, []int{1, 2, 3, 4, 5, 6, 7, 8}) {
		t.Errorf("kinds: %v", kinds)
	}
	codes := []int{Mask, Router, Wanted, Time, Kind, Server, Params, Client, Subnet}
	if !slices.Equal(codes, []int{1, 3, 50, 51, 53, 54, 55, 61, 118}) {
		t.Errorf("codes: %v", codes)
	}
}

func TestKindOf(t *testing.T) { // P5.1
	for x := range 256 {
		want := 0
		if x >= 1 && x <= 8 {
			want = x
		}
		l := []api.Opt{{Code: 12, Data: []byte{4}}, {Code: 53, Data: []byte{byte(x)}}, {Code: 54, Data: []byte{7}}}
		if k := KindOf(l); k != want {
			t.Errorf("KindOf the byte %d: %d", x, k)
		}
		if k := KindOf(l[1:2]); k != want {
			t.Errorf("KindOf the byte %d alone: %d", x, k)
		}
	}
}

func TestKindOfNone(t *testing.T) { // P5.1: no such option, and data that are not one byte
	for _, l := range [][]api.Opt{nil, {}, {{}}, {{Code: 52, Data: []byte{1}}, {Code: 54, Data: []byte{1}}}, {{Code: 256 + 53, Data: []byte{1}}}, {{Code: -53, Data: []byte{1}}}} {
		if k := KindOf(l); k != 0 {
			t.Errorf("KindOf(%v): %d", l, k)
		}
	}
	for _, data := range [][]byte{nil, {}, {1, 1}, {0, 1}, {1, 0}, {8, 8}, {0, 0, 1}, {0, 0, 0, 5}, make([]byte, 256), someBytes(700)} {
		if k := KindOf([]api.Opt{{Code: 53, Data: data}}); k != 0 {
			t.Errorf("KindOf %d bytes: %d", len(data), k)
		}
	}
	if k := KindOf([]api.Opt{{Code: 53, Data: []byte{1, 2}[:0]}}); k != 0 { // a byte behind the length is none of the data's
		t.Errorf("KindOf a byte of spare capacity: %d", k)
	}
}

func TestNumber(t *testing.T) { // P5.1
	for _, c := range []struct {
		data string
		want int
	}{
		{"\x00\x00\x00\x00", 0}, {"\x00\x00\x00\x01", 1}, {"\x00\x00\x02\x58", 600}, {"\x01\x00\x00\x00", 1 << 24}, {"\x01\x02\x03\x04", 0x01020304},
		{"\x7f\xff\xff\xff", 1<<31 - 1}, {"\x80\x00\x00\x00", 1 << 31}, {"\xff\xff\xff\xfe", 1<<32 - 2}, {"\xff\xff\xff\xff", 1<<32 - 1},
	} {
		for _, at := range append(someCodes, wrongCodes...) { // any code: a list may have it
			l := []api.Opt{{Code: 7, Data: []byte{9, 9, 9, 9}}, {Code: at, Data: []byte(c.data)}, {Code: 8, Data: []byte{1, 1, 1, 1}}}
			if n, ok := Number(l, at); n != c.want || !ok {
				t.Errorf("Number of %x with the code %d: %d, %v", c.data, at, n, ok)
			}
		}
	}
}

func TestNumberNone(t *testing.T) { // P5.1: no such option, and data that are not four bytes
	l := []api.Opt{{Code: 51, Data: []byte{0, 0, 2, 88}}, {Code: 7, Data: []byte{1, 2, 3, 4}}}
	for _, at := range append(wrongCodes, 1, 6, 8, 50, 52, 254) {
		if n, ok := Number(l, at); n != 0 || ok {
			t.Errorf("Number of the code %d: %d, %v", at, n, ok)
		}
		if n, ok := Number(nil, at); n != 0 || ok {
			t.Errorf("Number of the code %d in nothing: %d, %v", at, n, ok)
		}
	}
	for size := range 700 {
		n, ok := Number([]api.Opt{{Code: 51, Data: bytes.Repeat([]byte{1}, size)}}, 51)
		if ok != (size == 4) || !ok && n != 0 || ok && n != 0x01010101 {
			t.Errorf("Number of %d bytes: %d, %v", size, n, ok)
		}
	}
	if n, ok := Number([]api.Opt{{Code: 51, Data: []byte{1, 2, 3, 4}[:3]}}, 51); n != 0 || ok { // a byte behind the length is none of the data's
		t.Errorf("Number of three bytes and a spare one: %d, %v", n, ok)
	}
}

func TestListed(t *testing.T) { // P5.1
	for _, c := range []struct {
		data []byte
		want []int
	}{
		{nil, nil}, {[]byte{}, nil}, {[]byte{51}, []int{51}}, {[]byte{0}, []int{0}}, {[]byte{255}, []int{255}},
		{[]byte{1, 3, 51}, []int{1, 3, 51}}, {[]byte{51, 3, 1}, []int{51, 3, 1}}, {[]byte{3, 3}, []int{3, 3}}, {[]byte{3, 1, 3}, []int{3, 1, 3}},
	} {
		l := []api.Opt{{Code: 54, Data: []byte{9}}, {Code: 55, Data: c.data}, {Code: 56, Data: []byte{10}}}
		if got := Listed(l); !slices.Equal(got, c.want) {
			t.Errorf("Listed of %v: %v", c.data, got)
		}
		if got := Listed(l[1:2]); !slices.Equal(got, c.want) {
			t.Errorf("Listed of %v alone: %v", c.data, got)
		}
	}
	for _, l := range [][]api.Opt{nil, {}, {{}}, {{Code: 54, Data: []byte{1}}, {Code: 56, Data: []byte{1}}}, {{Code: 256 + 55, Data: []byte{1}}}} {
		if got := Listed(l); len(got) != 0 {
			t.Errorf("Listed(%v): %v", l, got)
		}
	}
	for _, n := range []int{255, 256, api.MaxData, api.MaxData + 1, 100000} {
		data := someBytes(n)
		got := Listed([]api.Opt{{Code: 55, Data: data}})
		if len(got) != n {
			t.Fatalf("Listed of %d bytes: %d codes", n, len(got))
		}
		for i, x := range got {
			if x != int(data[i]) {
				t.Errorf("Listed of %d bytes: %d at %d, not %d", n, x, i, data[i])
			}
		}
	}
}

func TestWants(t *testing.T) { // P5.1
	l := []api.Opt{{Code: 54, Data: []byte{9}}, {Code: 55, Data: []byte{51, 1, 0, 255, 1, 3}}, {Code: 61, Data: []byte{10}}}
	for at := -300; at < 600; at++ {
		if Wants(l, at) != slices.Contains([]int{51, 1, 0, 255, 3}, at) {
			t.Errorf("Wants the code %d: %v", at, Wants(l, at))
		}
		if Wants(nil, at) || Wants([]api.Opt{}, at) || Wants([]api.Opt{{Code: 55}}, at) || Wants([]api.Opt{{Code: at, Data: []byte{1}}}, at) {
			t.Errorf("Wants the code %d of nothing", at)
		}
	}
	every := []api.Opt{{Code: 55, Data: allBytes()}}
	for _, at := range wrongCodes {
		if Wants(every, at) != (at == 0 || at == 255) {
			t.Errorf("Wants the code %d among all bytes: %v", at, Wants(every, at))
		}
	}
}

func TestFirstCounts(t *testing.T) { // P5.1: of several options with one code the first, whatever it says
	for _, c := range []struct {
		first, second []byte
		kind, number  int
		ok            bool
		listed        []int
	}{
		{[]byte{3}, []byte{5}, 3, 0, false, []int{3}},
		{[]byte{5}, []byte{0, 0, 0, 3}, 5, 0, false, []int{5}},
		{[]byte{0, 0, 0, 3}, []byte{5}, 0, 3, true, []int{0, 0, 0, 3}},
		{nil, []byte{5}, 0, 0, false, nil},
		{[]byte{9}, []byte{5}, 0, 0, false, []int{9}},
		{[]byte{0}, []byte{5}, 0, 0, false, []int{0}},
		{[]byte{1, 2, 3}, []byte{0, 0, 0, 3}, 0, 0, false, []int{1, 2, 3}},
		{[]byte{0, 0, 0, 3}, []byte{0, 0, 0, 4}, 0, 3, true, []int{0, 0, 0, 3}},
	} {
		two := func(at int) []api.Opt {
			return []api.Opt{{Code: 7, Data: []byte{6}}, {Code: at, Data: c.first}, {Code: 8}, {Code: at, Data: c.second}, {Code: at, Data: []byte{7}}}
		}
		if k := KindOf(two(Kind)); k != c.kind {
			t.Errorf("KindOf %v and %v: %d", c.first, c.second, k)
		}
		if n, ok := Number(two(Time), Time); n != c.number || ok != c.ok {
			t.Errorf("Number of %v and %v: %d, %v", c.first, c.second, n, ok)
		}
		if got := Listed(two(Params)); !slices.Equal(got, c.listed) {
			t.Errorf("Listed of %v and %v: %v", c.first, c.second, got)
		}
		if Wants(two(Params), 7) || Wants(two(Params), 6) {
			t.Errorf("Wants of %v and %v: a later option's code", c.first, c.second)
		}
	}
}

func TestReadEach(t *testing.T) { // P5.1, P0: any list
	kinds, numbers := map[int]int{}, map[bool]int{}
	for i, l := range someLists() {
		kind := KindOf(l)
		kinds[kind]++
		if kind != handKind(l) {
			t.Errorf("KindOf list %d, %v: %d", i, l, kind)
		}
		params, _ := first(l, 55)
		listed := Listed(l)
		if len(listed) != len(params) {
			t.Errorf("Listed of list %d, %v: %v", i, l, listed)
		}
		for j, x := range params[:min(len(params), len(listed))] {
			if listed[j] != int(x) {
				t.Errorf("Listed of list %d, %v: %v", i, l, listed)
			}
		}
		for _, at := range append(someCodes, wrongCodes...) {
			want, wantOK := handNumber(l, at)
			n, ok := Number(l, at)
			numbers[ok]++
			if n != want || ok != wantOK {
				t.Errorf("Number of %d in list %d, %v: %d, %v", at, i, l, n, ok)
			}
			if Wants(l, at) != (at >= 0 && at <= 255 && bytes.IndexByte(params, byte(at)) >= 0) {
				t.Errorf("Wants of %d in list %d, %v: %v", at, i, l, Wants(l, at))
			}
		}
	}
	for k := range 9 {
		if kinds[k] < 2 {
			t.Errorf("too few of the kind %d: %v", k, kinds)
		}
	}
	if numbers[true] < 100 || numbers[false] < 100 {
		t.Errorf("too few numbers: %v", numbers)
	}
}

func TestKeep(t *testing.T) { // P5.2: the code there once, several times and not at all
	a, b, c := api.Opt{Code: 9, Data: []byte{1}}, api.Opt{Code: 12}, api.Opt{Code: 254, Data: []byte{2, 3}}
	is := api.Opt{Code: 51, Data: []byte{4}}
	for _, x := range []struct{ l, want []api.Opt }{
		{nil, nil}, {[]api.Opt{}, nil},
		{[]api.Opt{a, b, c}, []api.Opt{a, b, c}}, {[]api.Opt{c, b, a}, []api.Opt{c, b, a}},
		{[]api.Opt{is}, nil}, {[]api.Opt{is, a, b}, []api.Opt{a, b}}, {[]api.Opt{a, is, b}, []api.Opt{a, b}}, {[]api.Opt{a, b, is}, []api.Opt{a, b}},
		{[]api.Opt{is, is}, nil}, {[]api.Opt{is, is, is, a}, []api.Opt{a}}, {[]api.Opt{a, is, is}, []api.Opt{a}},
		{[]api.Opt{is, c, is, b, is, is, a, is}, []api.Opt{c, b, a}},
	} {
		for _, data := range someData() {
			keeps(t, x.l, 51, data, append(copyOf(x.want), api.Opt{Code: 51, Data: data}))
		}
	}
}

func TestKeepEdges(t *testing.T) { // P5.2: all codes and lengths
	l := []api.Opt{{Code: 1, Data: []byte{7}}, {Code: 254, Data: []byte{8}}, {Code: 12, Data: []byte{9}}}
	for at := -300; at <= 600; at++ {
		if at < 1 || at > 254 {
			refusesKeep(t, l, at, []byte{1})
			refusesKeep(t, nil, at, nil)
			continue
		}
		keeps(t, l, at, []byte{1}, append(others(l, at), api.Opt{Code: at, Data: []byte{1}}))
		keeps(t, nil, at, nil, []api.Opt{{Code: at}})
	}
	for n := range 700 {
		if n > 600 {
			refusesKeep(t, l, 1, someBytes(n))
			continue
		}
		keeps(t, l, 1, someBytes(n), append(l[1:3:3], api.Opt{Code: 1, Data: someBytes(n)}))
	}
	refusesKeep(t, l, 51, make([]byte, 100000))
	keeps(t, l, 254, nil, []api.Opt{l[0], l[2], {Code: 254}})
}

func TestKeepWrong(t *testing.T) { // P5.2: each wrong argument alone, and both; the list is no reason
	for _, l := range handLists() {
		for _, at := range wrongCodes {
			refusesKeep(t, l, at, nil)
			refusesKeep(t, l, at, []byte{1})
			refusesKeep(t, l, at, make([]byte, api.MaxData))
			refusesKeep(t, l, at, make([]byte, api.MaxData+1))
		}
		refusesKeep(t, l, 1, make([]byte, api.MaxData+1))
		refusesKeep(t, l, 254, make([]byte, api.MaxData+256))
	}
}

func TestKeepInAnyList(t *testing.T) { // P5.2: lists that are not valid stay so, but for the code that is set
	wrong := 0
	for i, l := range someLists() {
		if !tlv.Right(l) {
			wrong++
		}
		for _, at := range someCodes {
			for _, data := range [][]byte{nil, {7}, someBytes(api.MaxData)} {
				want, _ := handKeep(l, at, data)
				if got, e := Keep(l, at, data); !same(got, want) || e != api.OK {
					t.Errorf("Keep of %d in list %d, %v: %v, %d", at, i, l, got, e)
				}
			}
		}
	}
	if wrong < 50 {
		t.Errorf("too few lists that are not valid: %d", wrong)
	}
}

func TestSet(t *testing.T) { // P5.2
	old := []api.Opt{{Code: 51, Data: []byte{1}}, {Code: 12}, {Code: 51}, {Code: 3, Data: []byte{2}}}
	rest := []api.Opt{{Code: 12}, {Code: 3, Data: []byte{2}}}
	for _, c := range []struct {
		v, n int
		want string
	}{
		{0, 1, "\x00"}, {1, 1, "\x01"}, {5, 1, "\x05"}, {255, 1, "\xff"},
		{0, 2, "\x00\x00"}, {258, 2, "\x01\x02"}, {1<<16 - 1, 2, "\xff\xff"},
		{0, 3, "\x00\x00\x00"}, {1<<24 - 1, 3, "\xff\xff\xff"},
		{0, 4, "\x00\x00\x00\x00"}, {600, 4, "\x00\x00\x02\x58"}, {0x01020304, 4, "\x01\x02\x03\x04"}, {1<<32 - 1, 4, "\xff\xff\xff\xff"},
		{0, 7, "\x00\x00\x00\x00\x00\x00\x00"}, {0x01020304050607, 7, "\x01\x02\x03\x04\x05\x06\x07"}, {1<<56 - 1, 7, "\xff\xff\xff\xff\xff\xff\xff"},
	} {
		set := api.Opt{Code: 51, Data: []byte(c.want)}
		sets(t, nil, 51, c.v, c.n, []api.Opt{set})
		sets(t, []api.Opt{}, 51, c.v, c.n, []api.Opt{set})
		sets(t, old, 51, c.v, c.n, append(copyOf(rest), set))
		sets(t, rest, 51, c.v, c.n, append(copyOf(rest), set))
		for _, at := range []int{1, 254} {
			sets(t, rest, at, c.v, c.n, append(copyOf(rest), api.Opt{Code: at, Data: []byte(c.want)}))
		}
	}
}

func TestSetWrong(t *testing.T) { // P5.2: each wrong argument alone, and several; the list is no reason
	for _, l := range [][]api.Opt{nil, {{Code: 51, Data: []byte{1}}, {Code: 12}}, {{}, {}}, {{Code: 300, Data: make([]byte, 700)}}} {
		for _, n := range widths {
			for _, v := range []int{math.MinInt, -1 << 32, -256, -1, 1 << (8 * n), 1<<(8*n) + 5, math.MaxInt} {
				refusesSet(t, l, 51, v, n)
				refusesSet(t, l, 255, v, n)
			}
			for _, at := range wrongCodes {
				refusesSet(t, l, at, 0, n)
				refusesSet(t, l, at, 1<<(8*n)-1, n)
				refusesSet(t, l, at, 1<<(8*n), n)
			}
		}
		for _, n := range wrongWidths {
			for _, v := range []int{math.MinInt, -1, 0, 1, 255, 1 << 32, math.MaxInt} {
				refusesSet(t, l, 51, v, n)
				refusesSet(t, l, 0, v, n)
				refusesSet(t, l, 255, v, n)
				refusesSet(t, l, -1, v, n)
			}
		}
	}
}

func TestSetIsFound(t *testing.T) { // P5.3
	for i, l := range someLists() {
		for _, at := range someCodes {
			for _, v := range []int{0, 1, 600, 0x01020304, 1 << 31, 1<<32 - 1} {
				set, e := Set(l, at, v, 4)
				if n, ok := Number(set, at); n != v || !ok || e != api.OK {
					t.Errorf("Number of %d after Set to %d in list %d: %d, %v, %d", at, v, i, n, ok, e)
				}
			}
		}
		for k := range 10 {
			set, e := Set(l, Kind, k, 1)
			if KindOf(set) != k%9 || e != api.OK {
				t.Errorf("KindOf after Set to %d in list %d: %d, %d", k, i, KindOf(set), e)
			}
		}
		for _, data := range someData() {
			set, e := Keep(l, Params, data)
			if listed := Listed(set); len(listed) != len(data) || e != api.OK {
				t.Errorf("Listed after Keep of %d bytes in list %d: %d, %d", len(data), i, len(listed), e)
			}
			if found, ok := tlv.Find(set, Params); !bytes.Equal(found, data) || !ok {
				t.Errorf("Find after Keep of %d bytes in list %d: %x, %v", len(data), i, found, ok)
			}
		}
	}
}

func TestOthersRemain(t *testing.T) { // P5.4
	for i, l := range someLists() {
		for _, at := range someCodes {
			kept, e := Keep(l, at, []byte{1, 2})
			if !same(others(kept, at), others(l, at)) || len(kept) != len(others(l, at))+1 || e != api.OK {
				t.Errorf("Keep of %d in list %d, %v: %v, %d", at, i, l, kept, e)
			}
			set, e := Set(l, at, 600, 4)
			if !same(others(set, at), others(l, at)) || len(set) != len(others(l, at))+1 || e != api.OK {
				t.Errorf("Set of %d in list %d, %v: %v, %d", at, i, l, set, e)
			}
		}
	}
	l := []api.Opt{{Code: 3, Data: []byte{1}}, {Code: 51}, {Code: 3, Data: []byte{2}}, {Code: 300}, {Code: 300}, {Code: 51}, {Code: 1}}
	sets(t, l, 51, 7, 1, []api.Opt{l[0], l[2], l[3], l[4], l[6], {Code: 51, Data: []byte{7}}}) // one code twice among the others is no reason to drop one
}

func TestSetSeveral(t *testing.T) { // P5.3, P5.4: each value stays while others are set
	var l []api.Opt
	values := map[int]int{}
	for round := range 3 {
		for i, at := range someCodes {
			var e api.Errno
			l, e = Set(l, at, 1000*round+i, 4)
			if e != api.OK || l[len(l)-1].Code != at {
				t.Fatalf("Set of %d: %v, %d", at, l, e)
			}
			values[at] = 1000*round + i
			for _, c := range someCodes {
				want, wantOK := values[c]
				if n, ok := Number(l, c); n != want || ok != wantOK {
					t.Errorf("Number of %d after Set of %d in round %d: %d, %v", c, at, round, n, ok)
				}
			}
		}
	}
	if !tlv.Right(l) || len(l) != len(someCodes) {
		t.Errorf("after all rounds: %v", l)
	}
}

func TestAny(t *testing.T) { // P5.2, P0: no call panics, and errors come with zero values
	r := rand.New(rand.NewSource(13))
	codes := slices.Concat(someCodes, wrongCodes)
	keepErrors, setErrors := map[api.Errno]int{}, map[api.Errno]int{}
	for range 6000 {
		l, at := randomList(r), codes[r.Intn(len(codes))]
		b := make([]byte, []int{0, 1, 4, 255, 599, 600, 601, 602, 5000}[r.Intn(9)])
		r.Read(b)
		want, wantE := handKeep(l, at, b)
		got, e := Keep(l, at, b)
		keepErrors[e]++
		if !same(got, want) || e != wantE || e != api.OK && got != nil {
			t.Fatalf("Keep(%v, %d, %x): %v, %d, not %v, %d", l, at, b, got, e, want, wantE)
		}
		v, n := int(r.Uint64()>>r.Intn(64)), r.Intn(10)-1
		if r.Intn(9) == 0 {
			n = wrongWidths[r.Intn(len(wrongWidths))]
		}
		want, wantE = handSet(l, at, v, n)
		got, e = Set(l, at, v, n)
		setErrors[e]++
		if !same(got, want) || e != wantE || e != api.OK && got != nil {
			t.Fatalf("Set(%v, %d, %d, %d): %v, %d, not %v, %d", l, at, v, n, got, e, want, wantE)
		}
	}
	for _, e := range []api.Errno{api.OK, api.ErrArg} {
		if keepErrors[e] < 500 || setErrors[e] < 500 {
			t.Errorf("too few of %d: %v, %v", e, keepErrors, setErrors)
		}
	}
}

// fill writes one byte all over a slice, its spare capacity included.
func fill(b []byte, with byte) {
	b = b[:cap(b)]
	for i := range b {
		b[i] = with
	}
}

// roomyBytes answers a copy of bytes with spare capacity, and what checks that none of it has changed.
func roomyBytes(b []byte) ([]byte, func() bool) {
	c := append(make([]byte, 0, len(b)+50), b...)
	fill(c[len(c):], 77)
	before := bytes.Clone(c[:cap(c)])
	return c, func() bool { return bytes.Equal(c[:cap(c)], before) }
}

// roomy answers a copy of a list with spare capacity all over, and what checks that none of it has changed.
func roomy(l []api.Opt) ([]api.Opt, func() bool) {
	c := make([]api.Opt, 0, len(l)+5)
	for _, o := range l {
		data, _ := roomyBytes(o.Data)
		c = append(c, api.Opt{Code: o.Code, Data: data})
	}
	spare := c[len(c):cap(c)]
	for i := range spare {
		spare[i] = api.Opt{Code: 1000 + i, Data: []byte{78}}
	}
	whole := func() []api.Opt {
		var w []api.Opt
		for _, o := range c[:cap(c)] {
			w = append(w, api.Opt{Code: o.Code, Data: o.Data[:cap(o.Data)]})
		}
		return w
	}
	before := copyOf(whole())
	return c, func() bool { return same(whole(), before) }
}

// spoil writes all over a list and its data, and tells whether no two of the data share memory.
func spoil(l []api.Opt) bool {
	for i, o := range l {
		fill(o.Data, byte(i))
	}
	apart := true
	for i, o := range l {
		for _, x := range o.Data[:cap(o.Data)] {
			apart = apart && x == byte(i)
		}
	}
	l = l[:cap(l)]
	for i := range l {
		l[i] = api.Opt{Code: -9}
	}
	return apart
}

func TestMemory(t *testing.T) { // P0, R3: arguments stay as they are, and answers are memory of their own
	for i, s := range someLists() {
		l, stays := roomy(s)
		KindOf(l)
		listed := Listed(l)
		for _, at := range []int{1, 7, Time, Kind, Params, 254, 255} {
			Number(l, at)
			Wants(l, at)
			for _, data := range [][]byte{nil, {1}, someBytes(api.MaxData), someBytes(api.MaxData + 1)} {
				b, bytesStay := roomyBytes(data)
				if got, _ := Keep(l, at, b); !spoil(got) {
					t.Errorf("Keep in list %d: two options share memory", i)
				}
				if !bytesStay() {
					t.Errorf("Keep in list %d shares or changes its bytes", i)
				}
			}
			if got, _ := Set(l, at, 600, 4); !spoil(got) {
				t.Errorf("Set in list %d: two options share memory", i)
			}
		}
		listed = listed[:cap(listed)]
		for j := range listed {
			listed[j] = -9
		}
		if !stays() {
			t.Errorf("a call shares or changes list %d", i)
		}
	}
}

func TestSharedArguments(t *testing.T) { // P0, R3: arguments may share memory with one another, answers do not
	data := []byte{1, 2, 3, 4}
	l := []api.Opt{{Code: 1, Data: data}, {Code: 2, Data: data[1:]}, {Code: 1, Data: data[:2]}, {Code: 3, Data: data[:0]}}
	kept, e := Keep(l, 9, data[1:3])
	if !same(kept, append(copyOf(l), api.Opt{Code: 9, Data: []byte{2, 3}})) || e != api.OK {
		t.Errorf("Keep of a piece of the list: %v, %d", kept, e)
	}
	if !spoil(kept) || string(data) != "\x01\x02\x03\x04" {
		t.Errorf("Keep of a piece of the list shares memory")
	}
	kept, e = Keep(l, 2, l[1].Data)
	if !same(kept, []api.Opt{l[0], l[2], l[3], l[1]}) || e != api.OK {
		t.Errorf("Keep of an option's own data: %v, %d", kept, e)
	}
}

func TestSameAgain(t *testing.T) { // P0, R4
	for i, l := range someLists() {
		c := copyOf(l)
		first, e := Keep(l, Params, []byte{1})
		second, e2 := Keep(c, Params, []byte{1})
		if !same(first, second) || e != e2 {
			t.Errorf("Keep in list %d is answered otherwise the second time", i)
		}
		first, e = Set(l, Time, 600, 4)
		second, e2 = Set(c, Time, 600, 4)
		if !same(first, second) || e != e2 {
			t.Errorf("Set in list %d is answered otherwise the second time", i)
		}
		n, ok := Number(l, Time)
		m, ok2 := Number(c, Time)
		if KindOf(l) != KindOf(c) || n != m || ok != ok2 || !slices.Equal(Listed(l), Listed(c)) || Wants(l, 7) != Wants(c, 7) {
			t.Errorf("list %d is answered otherwise the second time", i)
		}
	}
}

func TestExample(t *testing.T) { // the chapter's example
	l, e := Set(nil, Time, 600, 4)
	if !same(l, []api.Opt{{Code: 51, Data: []byte{0, 0, 2, 0x58}}}) || e != api.OK {
		t.Fatalf("Set: %v, %d", l, e)
	}
	if n, ok := Number(l, Time); n != 600 || !ok {
		t.Errorf("Number: %d, %v", n, ok)
	}
	if l, e = Set(l, Kind, 5, 1); KindOf(l) != 5 || e != api.OK {
		t.Errorf("KindOf: %d, %d", KindOf(l), e)
	}
}
