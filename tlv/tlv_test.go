package tlv

import (
	"bytes"
	"math"
	"math/rand"
	"slices"
	"testing"

	"boarder/api"
)

// dataSizes are lengths of data at and between the edges of parts and of options.
var dataSizes = []int{0, 1, 2, 254, 255, 256, 257, 509, 510, 511, api.MaxData - 1, api.MaxData}

// wrongCodes are codes that no valid option has.
var wrongCodes = []int{math.MinInt, -256, -255, -1, 0, 255, 256, 257, 256 + 53, 1 << 32, 1<<32 + 53, math.MaxInt}

// someBytes answers n bytes from a fixed seed.
func someBytes(n int) []byte {
	b := make([]byte, n)
	rand.New(rand.NewSource(int64(n))).Read(b)
	return b
}

// manyOptions answers n options of the codes from first on, with size bytes each.
func manyOptions(first, n, size int) []api.Opt {
	var l []api.Opt
	for i := range n {
		l = append(l, api.Opt{Code: first + i, Data: bytes.Repeat([]byte{byte(i + 1)}, size)})
	}
	return l
}

// someLists answers valid lists: the edges, and others from a fixed seed.
func someLists() [][]api.Opt {
	ls := [][]api.Opt{
		nil, {}, {{Code: 1}}, {{Code: 254, Data: []byte{}}}, {{Code: 254}, {Code: 1, Data: []byte{255, 0, 255}}},
		{{Code: 53, Data: []byte{1}}, {Code: 12}}, {{Code: 12}, {Code: 53, Data: []byte{1}}},
		manyOptions(1, api.MaxOpts, 0), manyOptions(195, api.MaxOpts, 1), manyOptions(100, api.MaxOpts, api.MaxData),
		manyOptions(3, api.MaxOpts-1, 255),
	}
	for i, n := range dataSizes {
		ls = append(ls, []api.Opt{{Code: 9 + i, Data: someBytes(n)}})
		ls = append(ls, []api.Opt{{Code: 2, Data: []byte{7}}, {Code: 9 + i, Data: someBytes(n)}, {Code: 250, Data: []byte{0}}})
	}
	r := rand.New(rand.NewSource(5))
	for range 60 {
		ls = append(ls, randomList(r))
	}
	return ls
}

// randomList answers a valid list, with few codes or with many.
func randomList(r *rand.Rand) []api.Opt {
	var l []api.Opt
	codes := r.Perm([]int{4, 20, 70, 254}[r.Intn(4)])
	for _, c := range codes[:r.Intn(min(len(codes), api.MaxOpts)+1)] {
		n := dataSizes[r.Intn(len(dataSizes))]
		if r.Intn(3) > 0 {
			n = r.Intn(9)
		}
		data := make([]byte, n)
		r.Read(data)
		l = append(l, api.Opt{Code: c + 1, Data: data})
	}
	return l
}

// wrongLists answers lists that are not valid, each for one reason or for several.
func wrongLists() [][]api.Opt {
	ls := [][]api.Opt{
		{{Code: 53}, {Code: 53}}, {{Code: 53, Data: []byte{1}}, {Code: 12}, {Code: 53, Data: []byte{2}}},
		{{Code: 1}, {Code: 2}, {Code: 3}, {Code: 3}}, {{}},
		{{Code: 9, Data: make([]byte, api.MaxData+1)}}, {{Code: 1}, {Code: 254, Data: make([]byte, api.MaxData+1)}},
		{{Code: 9, Data: make([]byte, 100000)}, {Code: 10}},
		manyOptions(1, api.MaxOpts+1, 0), manyOptions(1, 254, 3), manyOptions(-10, 1000, 0), make([]api.Opt, 300),
		append(manyOptions(1, api.MaxOpts-1, 1), api.Opt{Code: 1}),
		append(manyOptions(1, api.MaxOpts, 1), api.Opt{Code: 1}),
	}
	for _, c := range wrongCodes {
		ls = append(ls, []api.Opt{{Code: c}}, []api.Opt{{Code: c, Data: []byte{1}}, {Code: 53}}, []api.Opt{{Code: 53}, {Code: c}})
	}
	return ls
}

// same: are two lists the same, nil and empty ones alike?
func same(l, m []api.Opt) bool {
	return slices.EqualFunc(l, m, func(o, p api.Opt) bool { return o.Code == p.Code && bytes.Equal(o.Data, p.Data) })
}

// copyOf answers a list with memory of its own.
func copyOf(l []api.Opt) []api.Opt {
	var c []api.Opt
	for _, o := range l {
		c = append(c, api.Opt{Code: o.Code, Data: append([]byte(nil), o.Data...)})
	}
	return c
}

// handWrite answers the encoding of a valid list, built here byte by byte.
func handWrite(l []api.Opt) []byte {
	var b []byte
	for _, o := range l {
		for i := range max(1, (len(o.Data)+254)/255) {
			part := o.Data[255*i : min(255*i+255, len(o.Data))]
			b = slices.Concat(b, []byte{byte(o.Code), byte(len(part))}, part)
		}
	}
	return append(b, 255)
}

// handJoin answers the joined list and whether it is valid.
func handJoin(l, m []api.Opt) ([]api.Opt, bool) {
	var order []int
	data := map[int][]byte{}
	for _, o := range append(copyOf(l), copyOf(m)...) {
		if _, ok := data[o.Code]; !ok {
			order = append(order, o.Code)
		}
		data[o.Code] = append(data[o.Code], o.Data...)
	}
	var joined []api.Opt
	right := len(order) <= 60
	for _, c := range order {
		right = right && len(data[c]) <= 600
		joined = append(joined, api.Opt{Code: c, Data: data[c]})
	}
	return joined, right
}

// handRead answers what P3.2 says of bytes: the whole list is looked at anew after each option.
func handRead(b []byte) ([]api.Opt, api.Errno) {
	var l []api.Opt
	for i := 0; i < len(b) && b[i] != 255; i++ {
		if b[i] == 0 {
			continue
		}
		if i+1 == len(b) || i+2+int(b[i+1]) > len(b) {
			return nil, api.ErrForm
		}
		part := b[i+2 : i+2+int(b[i+1])]
		joined, right := handJoin(l, []api.Opt{{Code: int(b[i]), Data: part}})
		if !right {
			return nil, api.ErrFull
		}
		l = joined
		i += 1 + len(part)
	}
	return l, api.OK
}

// reads: does Read answer this list, and no error?
func reads(t *testing.T, b []byte, want []api.Opt) {
	t.Helper()
	if l, e := Read(b); !same(l, want) || e != api.OK {
		t.Errorf("Read of %d bytes, %x: %v, %d, not %v", len(b), b[:min(len(b), 12)], l, e, want)
	}
}

// refuses: does Read answer this error, and nothing else?
func refuses(t *testing.T, b []byte, want api.Errno) {
	t.Helper()
	if l, e := Read(b); l != nil || e != want {
		t.Errorf("Read of %d bytes, %x: %v, %d, not %d", len(b), b[:min(len(b), 12)], l, e, want)
	}
}

func TestRight(t *testing.T) { // P3.1
	for i, l := range someLists() {
		if !Right(l) {
			t.Errorf("Right of valid list %d, %v: false", i, l)
		}
	}
	for i, l := range wrongLists() {
		if Right(l) {
			t.Errorf("Right of wrong list %d: true", i)
		}
	}
	for c := -300; c <= 600; c++ {
		if Right([]api.Opt{{Code: c}}) != (c >= 1 && c <= 254) {
			t.Errorf("Right of the code %d: %v", c, c < 1 || c > 254)
		}
	}
	for n := range 700 {
		if Right([]api.Opt{{Code: 9}, {Code: 8, Data: make([]byte, n)}}) != (n <= 600) {
			t.Errorf("Right of %d bytes: %v", n, n > 600)
		}
	}
	for n := range 100 {
		if Right(manyOptions(1, n, 2)) != (n <= 60) {
			t.Errorf("Right of %d options: %v", n, n > 60)
		}
	}
}

func TestRightOfEachPair(t *testing.T) { // P3.1: one code twice, wherever it stands
	for i := range api.MaxOpts {
		for j := range i {
			l := manyOptions(100, api.MaxOpts, 1)
			l[i].Code = l[j].Code
			if Right(l) {
				t.Errorf("Right with one code at %d and at %d: true", j, i)
			}
		}
	}
}

func TestWrite(t *testing.T) { // P3.1
	for _, c := range []struct {
		l    []api.Opt
		want string
	}{
		{nil, "\xff"}, {[]api.Opt{}, "\xff"}, {[]api.Opt{{Code: 1}}, "\x01\x00\xff"}, {[]api.Opt{{Code: 254, Data: []byte{}}}, "\xfe\x00\xff"},
		{[]api.Opt{{Code: 53, Data: []byte{1}}, {Code: 12}}, "\x35\x01\x01\x0c\x00\xff"},
		{[]api.Opt{{Code: 12}, {Code: 53, Data: []byte{1}}}, "\x0c\x00\x35\x01\x01\xff"},
		{[]api.Opt{{Code: 254, Data: []byte{255, 0}}, {Code: 1, Data: []byte{0, 0, 255}}}, "\xfe\x02\xff\x00\x01\x03\x00\x00\xff\xff"},
	} {
		if b, e := Write(c.l); string(b) != c.want || e != api.OK {
			t.Errorf("Write(%v): %x, %d", c.l, b, e)
		}
	}
	for i, l := range someLists() {
		if b, e := Write(l); !bytes.Equal(b, handWrite(l)) || e != api.OK {
			t.Errorf("Write of list %d, %v: %x, %d", i, l, b, e)
		}
	}
}

func TestWriteParts(t *testing.T) { // P3.1: each part but the last one has 255 bytes, and none is empty behind a full one
	for _, c := range []struct {
		size  int
		parts []int
	}{
		{0, []int{0}}, {1, []int{1}}, {254, []int{254}}, {255, []int{255}}, {256, []int{255, 1}}, {300, []int{255, 45}},
		{509, []int{255, 254}}, {510, []int{255, 255}}, {511, []int{255, 255, 1}}, {api.MaxData, []int{255, 255, 90}},
	} {
		data := someBytes(c.size)
		b, e := Write([]api.Opt{{Code: 9, Data: data}})
		if e != api.OK {
			t.Fatalf("Write of %d bytes: %d", c.size, e)
		}
		for _, n := range c.parts {
			if len(b) < n+2 || b[0] != 9 || int(b[1]) != n || !bytes.Equal(b[2:n+2], data[:n]) {
				t.Fatalf("Write of %d bytes: a part of %d is another one: %x", c.size, n, b)
			}
			b, data = b[n+2:], data[n:]
		}
		if string(b) != "\xff" {
			t.Errorf("Write of %d bytes: behind the parts %x", c.size, b)
		}
	}
}

func TestWriteWrong(t *testing.T) { // P3.1
	for i, l := range wrongLists() {
		if b, e := Write(l); b != nil || e != api.ErrArg {
			t.Errorf("Write of wrong list %d: %x, %d", i, b, e)
		}
	}
}

func TestFind(t *testing.T) { // P3.1
	for i, l := range someLists() {
		for c := -2; c <= 300; c++ {
			var want []byte
			has := false
			for _, o := range l {
				if o.Code == c {
					want, has = o.Data, true
				}
			}
			if d, ok := Find(l, c); !bytes.Equal(d, want) || ok != has {
				t.Errorf("Find of %d in list %d: %x, %v", c, i, d, ok)
			}
		}
	}
}

func TestFindInAnyList(t *testing.T) { // P3.1: the first one, in lists that are not valid too
	l := []api.Opt{{Code: 7}, {Code: 9, Data: []byte{1}}, {Code: 7, Data: []byte{2}}, {Code: 9, Data: []byte{3}}, {Code: 9}}
	for _, c := range append(wrongCodes, 254) {
		l = append(l, api.Opt{Code: c, Data: []byte{byte(len(l))}}, api.Opt{Code: c, Data: make([]byte, 700)})
	}
	for i, o := range l {
		first := slices.IndexFunc(l, func(p api.Opt) bool { return p.Code == o.Code })
		if d, ok := Find(l, o.Code); !bytes.Equal(d, l[first].Data) || !ok {
			t.Errorf("Find of option %d, %d: %x, %v", i, o.Code, d, ok)
		}
	}
	for _, c := range []int{-2, 2, 8, 10, 53, 253, 258, math.MinInt + 1, math.MaxInt - 1} {
		if d, ok := Find(l, c); d != nil || ok {
			t.Errorf("Find of %d: %x, %v", c, d, ok)
		}
		if d, ok := Find(nil, c); d != nil || ok {
			t.Errorf("Find of %d in nothing: %x, %v", c, d, ok)
		}
	}
	if d, ok := Find([]api.Opt{{Code: 5, Data: make([]byte, 700)}}, 5); len(d) != 700 || !ok {
		t.Errorf("Find of 700 bytes: %d bytes, %v", len(d), ok)
	}
}

func TestRead(t *testing.T) { // P3.2
	for _, c := range []struct {
		b    string
		want []api.Opt
	}{
		{"", nil}, {"\xff", nil}, {"\x00", nil}, {"\x00\x00\x00", nil}, {"\x00\xff", nil}, {"\xff\x35", nil}, {"\xff\x35\x09\x01", nil},
		{"\x00\x35\x01\x01\x0c\x00\xff\x07", []api.Opt{{Code: 53, Data: []byte{1}}, {Code: 12}}},
		{"\x35\x01\x01\x0c\x00", []api.Opt{{Code: 53, Data: []byte{1}}, {Code: 12}}},
		{"\x01\x00", []api.Opt{{Code: 1}}}, {"\xfe\x00", []api.Opt{{Code: 254}}},
		{"\xfe\x03\xff\x00\xff\x01\x01\x00", []api.Opt{{Code: 254, Data: []byte{255, 0, 255}}, {Code: 1, Data: []byte{0}}}},
		{"\x05\x01\xff\xff\x05\x01\x02", []api.Opt{{Code: 5, Data: []byte{255}}}},
		{"\x05\x02\x01\x02\x00\x00", []api.Opt{{Code: 5, Data: []byte{1, 2}}}},
	} {
		reads(t, []byte(c.b), c.want)
	}
	for _, l := range someLists() {
		b := handWrite(l)
		reads(t, b, l)
		reads(t, b[:len(b)-1], l) // with no 255 the options end with the bytes
	}
}

func TestReadParts(t *testing.T) { // P3.2: parts of one code, next to one another or not, full or not
	for _, c := range []struct {
		b    string
		want []api.Opt
	}{
		{"\x05\x01\x01\x05\x01\x02", []api.Opt{{Code: 5, Data: []byte{1, 2}}}},
		{"\x05\x01\x01\x06\x01\x09\x05\x01\x02", []api.Opt{{Code: 5, Data: []byte{1, 2}}, {Code: 6, Data: []byte{9}}}},
		{"\x05\x00\x06\x00\x05\x02\x01\x02\x00\x06\x01\x03\x05\x00\x05\x01\x04\xff\x05\x01\x09", []api.Opt{{Code: 5, Data: []byte{1, 2, 4}}, {Code: 6, Data: []byte{3}}}},
		{"\x06\x00\x05\x00\x06\x00\x05\x00", []api.Opt{{Code: 6}, {Code: 5}}},
	} {
		reads(t, []byte(c.b), c.want)
	}
	data := someBytes(api.MaxData)
	var b []byte
	for i := range data { // each byte as a part of its own, another option between
		b = append(b, 9, 1, data[i], 7, 0)
	}
	reads(t, b, []api.Opt{{Code: 9, Data: data}, {Code: 7}})
}

func TestReadWrong(t *testing.T) { // P3.2
	refuses(t, []byte{53}, api.ErrForm)
	refuses(t, []byte{0, 0, 53}, api.ErrForm)
	refuses(t, []byte{53, 1}, api.ErrForm)
	refuses(t, []byte{53, 255}, api.ErrForm)
	refuses(t, []byte{12, 0, 53}, api.ErrForm)
	refuses(t, []byte{53, 2, 255}, api.ErrForm)
	for c := 1; c <= 254; c++ {
		for n := 1; n <= 255; n++ {
			b := append([]byte{1, 0, byte(c), byte(n)}, make([]byte, n-1)...)
			refuses(t, b, api.ErrForm)
			refuses(t, append(b, 1)[:len(b)], api.ErrForm) // bytes behind the length are none of b's
			if l, e := Read(append(b, 3)); len(l) != 1+min(c-1, 1) || e != api.OK {
				t.Errorf("Read of the code %d with %d bytes: %v, %d", c, n, l, e)
			}
		}
	}
}

func TestReadOfPrefixes(t *testing.T) { // P3.2: what ends within a part is refused, what ends between two is not
	l := []api.Opt{{Code: 53, Data: []byte{1}}, {Code: 12}, {Code: 9, Data: someBytes(300)}, {Code: 61, Data: []byte{0, 255}}}
	b := handWrite(l)
	whole := map[int]int{0: 0, 3: 1, 5: 2, 262: 3, 309: 3, 313: 4, 314: 4}
	for i := range len(b) + 1 {
		n, ok := whole[i]
		got, e := Read(b[:i])
		if ok && (len(got) != n || e != api.OK) || !ok && (got != nil || e != api.ErrForm) {
			t.Errorf("Read of %d bytes: %v, %d", i, got, e)
		}
	}
}

func TestReadFull(t *testing.T) { // P3.2
	full := handWrite(manyOptions(1, api.MaxOpts, 1))
	full = full[:len(full)-1]
	more := slices.Concat(full, []byte{61, 0})
	refuses(t, more, api.ErrFull)
	refuses(t, handWrite(manyOptions(1, 254, 0)), api.ErrFull)
	if l, e := Read(slices.Concat(full, []byte{60, 1, 9, 0, 1, 0})); len(l) != 60 || string(l[59].Data) != "\x3c\x09" || e != api.OK {
		t.Errorf("Read of codes that are there already: %v, %d", l, e)
	}
	reads(t, slices.Concat(full, []byte{255, 61, 0}), manyOptions(1, api.MaxOpts, 1))

	big := handWrite([]api.Opt{{Code: 7}, {Code: 9, Data: someBytes(api.MaxData)}})
	big = big[:len(big)-1]
	refuses(t, slices.Concat(big, []byte{9, 1, 0}), api.ErrFull)
	refuses(t, slices.Concat(big, []byte{8, 0, 9, 1, 0, 255}), api.ErrFull)
	refuses(t, handWrite([]api.Opt{{Code: 9, Data: make([]byte, api.MaxData+1)}}), api.ErrFull)
	refuses(t, bytes.Repeat([]byte{9, 1, 1}, api.MaxData+1), api.ErrFull)
	reads(t, slices.Concat(big, []byte{9, 0}), []api.Opt{{Code: 7}, {Code: 9, Data: someBytes(api.MaxData)}})
	reads(t, slices.Concat(big, []byte{255, 9, 1, 0}), []api.Opt{{Code: 7}, {Code: 9, Data: someBytes(api.MaxData)}})
}

func TestReadFirstError(t *testing.T) { // P3.2: the error that occurs first, and of one option ErrForm ahead of ErrFull
	many := handWrite(manyOptions(1, api.MaxOpts, 1))
	many = many[:len(many)-1]
	big := handWrite([]api.Opt{{Code: 9, Data: someBytes(api.MaxData)}})
	big = big[:len(big)-1]
	refuses(t, slices.Concat(many, []byte{61}), api.ErrForm)
	refuses(t, slices.Concat(many, []byte{61, 2, 1}), api.ErrForm)
	refuses(t, slices.Concat(big, []byte{9}), api.ErrForm)
	refuses(t, slices.Concat(big, []byte{9, 2, 1}), api.ErrForm)
	refuses(t, slices.Concat(many, []byte{61, 0, 62}), api.ErrFull)
	refuses(t, slices.Concat(many, []byte{61, 0, 1, 9}), api.ErrFull)
	refuses(t, slices.Concat(big, []byte{9, 1, 1, 9}), api.ErrFull)
	refuses(t, slices.Concat(big, []byte{9, 1, 1, 8, 5}), api.ErrFull)
}

func TestJoin(t *testing.T) { // P3.3
	one := []api.Opt{{Code: 9, Data: []byte{1}}}
	two := []api.Opt{{Code: 8}, {Code: 9, Data: []byte{2, 3}}, {Code: 7, Data: []byte{4}}}
	for _, c := range []struct{ l, m, want []api.Opt }{
		{nil, nil, nil}, {one, nil, one}, {nil, two, two}, {[]api.Opt{}, one, one},
		{one, two, []api.Opt{{Code: 9, Data: []byte{1, 2, 3}}, {Code: 8}, {Code: 7, Data: []byte{4}}}},
		{two, one, []api.Opt{{Code: 8}, {Code: 9, Data: []byte{2, 3, 1}}, {Code: 7, Data: []byte{4}}}},
		{two, two, []api.Opt{{Code: 8}, {Code: 9, Data: []byte{2, 3, 2, 3}}, {Code: 7, Data: []byte{4, 4}}}},
	} {
		if l, e := Join(c.l, c.m); !same(l, c.want) || e != api.OK {
			t.Errorf("Join(%v, %v): %v, %d", c.l, c.m, l, e)
		}
	}
}

func TestJoinEach(t *testing.T) { // P3.3
	counts := map[api.Errno]int{}
	for i, l := range someLists() {
		for j, m := range someLists() {
			want, right := handJoin(l, m)
			got, e := Join(l, m)
			counts[e]++
			if right && (!same(got, want) || e != api.OK || !Right(got)) || !right && (got != nil || e != api.ErrFull) {
				t.Errorf("Join of lists %d and %d: %v, %d", i, j, got, e)
			}
		}
	}
	if counts[api.OK] < 500 || counts[api.ErrFull] < 500 {
		t.Errorf("too few of one kind: %v", counts)
	}
}

func TestJoinFull(t *testing.T) { // P3.3: lists that are valid and that joined are not, at the edge
	for _, n := range []int{0, 1, 255, 300, 599, 600} {
		l := []api.Opt{{Code: 3}, {Code: 9, Data: someBytes(n)}}
		if got, e := Join(l, []api.Opt{{Code: 9, Data: make([]byte, 600-n)}}); e != api.OK || len(got) != 2 || len(got[1].Data) != 600 {
			t.Errorf("Join of %d bytes to 600: %v, %d", n, got, e)
		}
		if got, e := Join(l, []api.Opt{{Code: 4}, {Code: 9, Data: make([]byte, min(600, 601-n))}}); n > 0 && (e != api.ErrFull || got != nil) {
			t.Errorf("Join of %d bytes to 601: %v, %d", n, got, e)
		}
	}
	for n := range 61 {
		l := manyOptions(1, n, 1)
		if got, e := Join(l, manyOptions(100, 60-n, 1)); len(got) != 60 || e != api.OK {
			t.Errorf("Join of %d options to 60: %v, %d", n, got, e)
		}
		if got, e := Join(l, manyOptions(100, min(60, 61-n), 1)); n > 0 && (got != nil || e != api.ErrFull) {
			t.Errorf("Join of %d options to 61: %v, %d", n, got, e)
		}
	}
	l := manyOptions(1, 60, 300)
	if got, e := Join(l, l); len(got) != 60 || len(got[59].Data) != 600 || e != api.OK {
		t.Errorf("Join of 60 options with themselves: %d options, %d", len(got), e)
	}
}

func TestJoinWrong(t *testing.T) { // P3.3: ErrArg ahead of ErrFull
	full := manyOptions(1, api.MaxOpts, api.MaxData)
	for i, w := range wrongLists() {
		for _, l := range [][]api.Opt{nil, {{Code: 53}}, full, w} {
			if got, e := Join(l, w); got != nil || e != api.ErrArg {
				t.Errorf("Join of %d options with wrong list %d: %v, %d", len(l), i, got, e)
			}
			if got, e := Join(w, l); got != nil || e != api.ErrArg {
				t.Errorf("Join of wrong list %d with %d options: %v, %d", i, len(l), got, e)
			}
		}
	}
}

func TestReadOfWrite(t *testing.T) { // P3.4
	for i, l := range someLists() {
		b, e := Write(l)
		if e != api.OK {
			t.Fatalf("Write of list %d: %d", i, e)
		}
		reads(t, b, l)
	}
}

// randomOptions answers bytes that are often options: few codes or many, parts of all lengths, and zero bytes.
func randomOptions(r *rand.Rand) []byte {
	var b []byte
	codes := []int{2, 20, 80, 254}[r.Intn(4)]
	for range r.Intn(90) {
		n := []int{0, 0, 1, r.Intn(9), 200 + r.Intn(56)}[r.Intn(5)]
		part := make([]byte, n)
		r.Read(part)
		b = append(b, make([]byte, r.Intn(2))...)
		b = slices.Concat(b, []byte{byte(1 + r.Intn(codes)), byte(n)}, part)
		if r.Intn(60) == 0 {
			b = append(b, 255)
		}
	}
	return b[:len(b)-min(len(b), []int{0, 0, 0, 1, 5}[r.Intn(5)])]
}

func TestWriteOfRead(t *testing.T) { // P3.2, P3.4, P0: any bytes
	r := rand.New(rand.NewSource(11))
	counts := map[api.Errno]int{}
	for i := range 6000 {
		b := randomOptions(r)
		if i%3 == 0 {
			b = make([]byte, r.Intn(300))
			r.Read(b)
		}
		l, e := Read(b)
		want, wantE := handRead(b)
		counts[e]++
		if e != wantE || !same(l, want) || !Right(l) || e != api.OK && l != nil {
			t.Fatalf("Read of %x: %v, %d, not %v, %d", b, l, e, want, wantE)
		}
		again, e := Write(l)
		if e != api.OK {
			t.Fatalf("Write of what Read answered: %d", e)
		}
		reads(t, again, l)
	}
	if counts[api.OK] < 300 || counts[api.ErrForm] < 300 || counts[api.ErrFull] < 300 {
		t.Errorf("too few of one kind: %v", counts)
	}
}

func TestReadOfTwo(t *testing.T) { // P3.5
	for i, l := range someLists() {
		b, e := Write(l)
		if e != api.OK {
			t.Fatalf("Write of list %d: %d", i, e)
		}
		for j, m := range someLists() {
			c, e := Write(m)
			if e != api.OK {
				t.Fatalf("Write of list %d: %d", j, e)
			}
			joined, joinE := Join(l, m)
			if got, e := Read(slices.Concat(b[:len(b)-1], c)); !same(got, joined) || e != joinE {
				t.Errorf("Read of lists %d and %d: %v, %d, not %v, %d", i, j, got, e, joined, joinE)
			}
		}
	}
}

func TestBytesAfterTheEnd(t *testing.T) { // P3.6
	wrong := handWrite(manyOptions(1, 254, 0))
	for _, l := range someLists() {
		for _, tail := range [][]byte{{0}, {7}, {255}, {53, 9}, {53, 1, 1}, wrong, someBytes(500), make([]byte, 2000)} {
			reads(t, slices.Concat(handWrite(l), tail), l)
		}
	}
	for _, b := range [][]byte{{53, 255}, {53, 3, 1, 255}} { // a 255 that is a length or data is no end
		refuses(t, b, api.ErrForm)
	}
}

func TestZeroBytes(t *testing.T) { // P3.6
	for _, zeros := range []int{1, 2, 3, 255, 256, 1500, 100000} {
		pad := make([]byte, zeros)
		reads(t, pad, nil)
		reads(t, append(pad, 255), nil)
		reads(t, slices.Concat(pad, []byte{53, 1, 1}, pad, pad, []byte{12, 0}, pad), []api.Opt{{Code: 53, Data: []byte{1}}, {Code: 12}})
		refuses(t, append(pad, 53), api.ErrForm)
	}
	for _, l := range someLists() {
		var b []byte
		for i, o := range l {
			part := handWrite([]api.Opt{o})
			b = slices.Concat(b, make([]byte, i%3), part[:len(part)-1])
		}
		reads(t, append(b, 0, 0, 255), l)
	}
	reads(t, []byte{5, 2, 0, 0, 0, 5, 1, 0}, []api.Opt{{Code: 5, Data: []byte{0, 0, 0}}}) // zero bytes of data are none of these
}

func TestAnyLists(t *testing.T) { // P0: no call panics, and errors come with zero values
	r := rand.New(rand.NewSource(13))
	codes := append(wrongCodes, 1, 2, 53, 253, 254)
	for range 4000 {
		var l, m []api.Opt
		for range r.Intn(4) {
			l = append(l, api.Opt{Code: codes[r.Intn(len(codes))], Data: make([]byte, r.Intn(3)*300)})
			m = append(m, api.Opt{Code: codes[r.Intn(len(codes))], Data: make([]byte, r.Intn(4)*201)})
		}
		if b, e := Write(l); (e == api.OK) != Right(l) || (b == nil) != (e == api.ErrArg) {
			t.Errorf("Write(%v): %x, %d", l, b, e)
		}
		if got, e := Join(l, m); (e == api.ErrArg) != (!Right(l) || !Right(m)) || e != api.OK && got != nil || !Right(got) {
			t.Errorf("Join(%v, %v): %v, %d", l, m, got, e)
		}
		for _, c := range codes {
			if d, ok := Find(l, c); !ok && d != nil {
				t.Errorf("Find of %d in %v: %x, %v", c, l, d, ok)
			}
		}
	}
}

// fill writes one byte all over a slice, its spare capacity included.
func fill(b []byte, with byte) {
	b = b[:cap(b)]
	for i := range b {
		b[i] = with
	}
}

// roomy answers a copy of a list with spare capacity all over, and what checks that none of it has changed.
func roomy(l []api.Opt) ([]api.Opt, func() bool) {
	c := make([]api.Opt, 0, len(l)+5)
	for _, o := range l {
		data := append(make([]byte, 0, len(o.Data)+50), o.Data...)
		fill(data[len(data):], 77)
		c = append(c, api.Opt{Code: o.Code, Data: data})
	}
	spare := c[len(c):cap(c)]
	for i := range spare {
		spare[i] = api.Opt{Code: 1000 + i, Data: []byte{78}}
	}
	whole := func() []api.Opt {
		var w []api.Opt
		for _, o := range c[:cap(c)] {
			w = append(w, api.Opt{Code: o.Code, Data: o.Data[:cap(o.Data)]})
		}
		return w
	}
	before := copyOf(whole())
	return c, func() bool { return same(whole(), before) }
}

// spoil writes all over a list and its data, and tells whether any two of the data share memory.
func spoil(l []api.Opt) bool {
	for i, o := range l {
		fill(o.Data, byte(i))
	}
	apart := true
	for i, o := range l {
		for _, x := range o.Data[:cap(o.Data)] {
			apart = apart && x == byte(i)
		}
	}
	l = l[:cap(l)]
	for i := range l {
		l[i] = api.Opt{Code: -9}
	}
	return apart
}

func TestMemoryOfLists(t *testing.T) { // P0, R3: arguments stay as they are, and answers are memory of their own
	other, otherStays := roomy([]api.Opt{{Code: 1, Data: []byte{1, 2}}, {Code: 9}, {Code: 254, Data: []byte{3}}})
	for i, s := range append(someLists(), wrongLists()...) {
		l, stays := roomy(s)
		Right(l)
		b, _ := Write(l)
		fill(b, 99)
		for _, o := range l {
			d, _ := Find(l, o.Code)
			fill(d, 99)
		}
		for _, pair := range [][2][]api.Opt{{l, other}, {other, l}, {l, nil}, {nil, l}, {l, l}} {
			if got, _ := Join(pair[0], pair[1]); !spoil(got) {
				t.Errorf("Join with list %d: two options share memory", i)
			}
		}
		if !stays() || !otherStays() {
			t.Errorf("a call shares or changes list %d", i)
		}
	}
}

func TestMemoryOfBytes(t *testing.T) { // P0, R3
	for i, l := range someLists() {
		b := append(handWrite(l), make([]byte, 50)...)
		fill(b[len(b)-50:], 77)
		b = b[:len(b)-50]
		before := bytes.Clone(b[:cap(b)])
		got, e := Read(b)
		if e != api.OK {
			t.Fatalf("Read of list %d: %d", i, e)
		}
		if !spoil(got) {
			t.Errorf("Read of list %d: two options share memory", i)
		}
		if !bytes.Equal(b[:cap(b)], before) {
			t.Errorf("Read of list %d shares or changes its argument", i)
		}
	}
}

func TestSameAgain(t *testing.T) { // P0, R4
	for i, l := range someLists() {
		b, _ := Write(l)
		c, _ := Write(copyOf(l))
		first, _ := Read(b)
		second, _ := Read(c)
		joined, e := Join(l, first)
		again, e2 := Join(copyOf(l), second)
		if !bytes.Equal(b, c) || !same(first, second) || !same(joined, again) || e != e2 {
			t.Errorf("list %d is answered otherwise the second time", i)
		}
	}
}
