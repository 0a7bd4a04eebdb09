package msg

import (
	"bytes"
	"encoding/binary"
	"math"
	"math/rand"
	"slices"
	"testing"

	"boarder/api"
	"boarder/tlv"
)

// number is one of the header: what it is called, where it stands in a message and in bytes, and its greatest value.
type number struct {
	name            string
	of              func(m *Msg) *int
	at, n, greatest int
}

// headerNumbers answers all numbers of the header.
func headerNumbers() []number {
	return []number{
		{"Op", func(m *Msg) *int { return &m.Op }, 0, 1, 255},
		{"Htype", func(m *Msg) *int { return &m.Htype }, 1, 1, 255},
		{"Hlen", func(m *Msg) *int { return &m.Hlen }, 2, 1, 16},
		{"Hops", func(m *Msg) *int { return &m.Hops }, 3, 1, 255},
		{"Xid", func(m *Msg) *int { return &m.Xid }, 4, 4, 1<<32 - 1},
		{"Secs", func(m *Msg) *int { return &m.Secs }, 8, 2, 65535},
		{"Flags", func(m *Msg) *int { return &m.Flags }, 10, 2, 65535},
		{"Ci", func(m *Msg) *int { return &m.Ci }, 12, 4, api.MaxAddr},
		{"Yi", func(m *Msg) *int { return &m.Yi }, 16, 4, api.MaxAddr},
		{"Si", func(m *Msg) *int { return &m.Si }, 20, 4, api.MaxAddr},
		{"Gi", func(m *Msg) *int { return &m.Gi }, 24, 4, api.MaxAddr},
	}
}

// someBytes answers n bytes from a fixed seed.
func someBytes(n int) []byte {
	b := make([]byte, n)
	rand.New(rand.NewSource(int64(n))).Read(b)
	return b
}

// manyOptions answers n options of the codes from first on, with size bytes each.
func manyOptions(first, n, size int) []api.Opt {
	var l []api.Opt
	for i := range n {
		l = append(l, api.Opt{Code: first + i, Data: bytes.Repeat([]byte{byte(i + 1)}, size)})
	}
	return l
}

// plain answers an ordinary message with these options.
func plain(l ...api.Opt) Msg {
	return Msg{
		Op: 1, Htype: 2, Hlen: 6, Hops: 3, Xid: 0x0a0b0c0d, Secs: 0x0e0f, Flags: 0x8001,
		Ci: 0x10111213, Yi: 0x14151617, Si: 0x18191a1b, Gi: 0x1c1d1e1f,
		Chaddr: []byte("hardware-address"), Opts: l,
	}
}

// sized answers options whose encoding has n bytes, which must be at least 1.
func sized(n int) []api.Opt {
	var l []api.Opt
	code := 60
	for n--; n > 257; n -= 257 {
		part := 257
		if n-part < 2 { // what is left must have room for a code and a length
			part = 255
			n += 2
		}
		l = append(l, api.Opt{Code: code, Data: someBytes(part - 2)})
		code++
	}
	if n == 1 {
		panic("no options have two bytes")
	}
	if n > 0 {
		l = append(l, api.Opt{Code: code, Data: someBytes(n - 2)})
	}
	return l
}

// someMessages answers valid messages that can be written: the edges, and others from a fixed seed.
func someMessages() []Msg {
	ms := []Msg{
		{Chaddr: make([]byte, 16)}, {Chaddr: make([]byte, 16), Opts: []api.Opt{}}, plain(), plain(api.Opt{Code: 53, Data: []byte{1}}),
		plain(api.Opt{Code: 1}), plain(api.Opt{Code: 254}), plain(api.Opt{Code: 51}, api.Opt{Code: 53, Data: []byte{52, 1, 1}}),
		plain(manyOptions(60, api.MaxOpts, 0)...), plain(manyOptions(60, api.MaxOpts, 10)...), plain(manyOptions(53, api.MaxOpts-1, 3)...),
		plain(api.Opt{Code: 9, Data: someBytes(api.MaxData)}), plain(manyOptions(7, 2, api.MaxData)...),
	}
	for _, n := range []int{1, 3, 58, 59, 60, 61, 62, 63, 258, 259, 1258, 1259, 1260} {
		ms = append(ms, plain(sized(n)...))
	}
	for _, h := range headerNumbers() {
		for _, v := range []int{0, 1, h.greatest - 1, h.greatest} {
			m, zero := plain(), Msg{Chaddr: make([]byte, 16)}
			*h.of(&m), *h.of(&zero) = v, v
			ms = append(ms, m, zero)
		}
	}
	r := rand.New(rand.NewSource(3))
	for range 300 {
		ms = append(ms, randomMessage(r))
	}
	return ms
}

// randomMessage answers a valid message with few options.
func randomMessage(r *rand.Rand) Msg {
	m := Msg{Chaddr: make([]byte, 16)}
	r.Read(m.Chaddr)
	for _, h := range headerNumbers() {
		*h.of(&m) = r.Intn(h.greatest + 1)
	}
	for _, c := range r.Perm(254)[:r.Intn(9)] {
		if c+1 != 52 {
			data := make([]byte, r.Intn(20)*r.Intn(8))
			r.Read(data)
			m.Opts = append(m.Opts, api.Opt{Code: c + 1, Data: data})
		}
	}
	return m
}

// wrongMessages answers messages that are not valid, each for one reason or for several.
func wrongMessages() []Msg {
	ms := []Msg{{}, {Opts: []api.Opt{{Code: 53}}}, {Op: -1, Chaddr: []byte{1}, Opts: []api.Opt{{}}}}
	for _, h := range headerNumbers() {
		for _, v := range []int{-1, h.greatest + 1, math.MinInt, math.MaxInt, -h.greatest, 1 << 32, 1<<32 + 1, 1 << 40, -1 << 32} {
			m, zero := plain(), Msg{Chaddr: make([]byte, 16)}
			*h.of(&m), *h.of(&zero) = v, v
			ms = append(ms, m, zero)
		}
	}
	for _, n := range []int{0, 1, 6, 15, 17, 32, 2000} {
		m := plain()
		m.Chaddr = make([]byte, n)
		ms = append(ms, m)
		m.Chaddr = append(make([]byte, 0, 64), m.Chaddr...) // room behind the bytes counts for nothing
		ms = append(ms, m)
	}
	for _, data := range [][]byte{nil, {}, {0}, {1}, {2}, {3}, {4}, {1, 2}, make([]byte, 600)} {
		o := api.Opt{Code: 52, Data: data}
		ms = append(ms, plain(o), plain(api.Opt{Code: 53}, o), plain(o, api.Opt{Code: 53}), plain(append(manyOptions(60, 59, 1), o)...))
	}
	return append(ms,
		plain(api.Opt{}), plain(api.Opt{Code: 255}), plain(api.Opt{Code: -1}), plain(api.Opt{Code: 256 + 53}), plain(api.Opt{Code: math.MinInt}),
		plain(api.Opt{Code: 53}, api.Opt{Code: 53}), plain(api.Opt{Code: 9, Data: make([]byte, api.MaxData+1)}),
		plain(manyOptions(60, api.MaxOpts+1, 0)...), plain(manyOptions(1, 300, 1)...), plain(make([]api.Opt, 300)...),
	)
}

// sameOptions: are two lists the same, nil and empty ones alike?
func sameOptions(l, m []api.Opt) bool {
	return slices.EqualFunc(l, m, func(o, p api.Opt) bool { return o.Code == p.Code && bytes.Equal(o.Data, p.Data) })
}

// same: are two messages the same?
func same(m, k Msg) bool {
	for _, h := range headerNumbers() {
		if *h.of(&m) != *h.of(&k) {
			return false
		}
	}
	return bytes.Equal(m.Chaddr, k.Chaddr) && sameOptions(m.Opts, k.Opts)
}

// empty: is a message the zero one?
func empty(m Msg) bool {
	return same(m, Msg{}) && m.Chaddr == nil && m.Opts == nil
}

// optionBytes answers the encoding of options, without the byte 255 at its end.
func optionBytes(l ...api.Opt) []byte {
	var b []byte
	for _, o := range l {
		for i := range max(1, (len(o.Data)+254)/255) {
			part := o.Data[255*i : min(255*i+255, len(o.Data))]
			b = slices.Concat(b, []byte{byte(o.Code), byte(len(part))}, part)
		}
	}
	return b
}

// handWrite answers the bytes of a valid message, built here field by field.
func handWrite(m Msg) []byte {
	b := []byte{byte(m.Op), byte(m.Htype), byte(m.Hlen), byte(m.Hops)}
	b = binary.BigEndian.AppendUint32(b, uint32(m.Xid))
	b = binary.BigEndian.AppendUint16(b, uint16(m.Secs))
	b = binary.BigEndian.AppendUint16(b, uint16(m.Flags))
	for _, a := range []int{m.Ci, m.Yi, m.Si, m.Gi} {
		b = binary.BigEndian.AppendUint32(b, uint32(a))
	}
	b = slices.Concat(b, m.Chaddr, make([]byte, 64+128), []byte{0x63, 0x82, 0x53, 0x63}, optionBytes(m.Opts...), []byte{255})
	for len(b) < 300 {
		b = append(b, 0)
	}
	return b
}

// packet answers the bytes of the plain message with these bytes after the cookie, in the file field and in the name field.
func packet(options, file, name []byte) []byte {
	b := append(handWrite(plain())[:240], options...)
	if copy(b[108:236], file) != len(file) || copy(b[44:108], name) != len(name) {
		panic("a field is too short")
	}
	return b
}

// overloads answers the option overload, and further bytes behind it.
func overloads(value byte, options ...byte) []byte {
	return append([]byte{52, 1, value}, options...)
}

// reads: does Read answer the plain message with these options, and no error?
func reads(t *testing.T, b []byte, want ...api.Opt) {
	t.Helper()
	if m, e := Read(b); !same(m, plain(want...)) || e != api.OK || !Right(m) {
		t.Errorf("Read of %d bytes, after the cookie %x: %v, %d, not %v", len(b), b[240:min(len(b), 256)], m, e, want)
	}
}

// refuses: does Read answer this error, and nothing else?
func refuses(t *testing.T, b []byte, want api.Errno) {
	t.Helper()
	if m, e := Read(b); !empty(m) || e != want {
		t.Errorf("Read of %d bytes, at the cookie %x: %v, %d, not %d", len(b), b[min(len(b), 236):min(len(b), 256)], m, e, want)
	}
}

func TestRight(t *testing.T) { // P4.1
	for i, m := range someMessages() {
		if !Right(m) {
			t.Errorf("Right of valid message %d, %v: false", i, m)
		}
	}
	for i, m := range wrongMessages() {
		if Right(m) {
			t.Errorf("Right of wrong message %d, %v: true", i, m)
		}
	}
	for _, h := range headerNumbers() {
		for v := -300; v <= 70000; v++ {
			m := plain()
			*h.of(&m) = v
			if Right(m) != (v >= 0 && v <= h.greatest) {
				t.Errorf("Right with %s %d: %v", h.name, v, Right(m))
			}
		}
	}
}

func TestRightOfChaddrAndOptions(t *testing.T) { // P4.1
	for n := range 40 {
		m := plain()
		m.Chaddr = make([]byte, n)
		if Right(m) != (n == 16) {
			t.Errorf("Right with %d bytes of Chaddr: %v", n, Right(m))
		}
	}
	for c := -300; c <= 600; c++ {
		if m := plain(api.Opt{Code: c}); Right(m) != (c >= 1 && c <= 254 && c != 52) {
			t.Errorf("Right with the code %d: %v", c, Right(m))
		}
	}
	if !Right(plain(manyOptions(60, api.MaxOpts, api.MaxData)...)) { // too long to be written, and valid
		t.Error("Right of the longest options: false")
	}
}

func TestWrite(t *testing.T) { // P4.1
	for i, m := range someMessages() {
		if b, e := Write(m); !bytes.Equal(b, handWrite(m)) || e != api.OK {
			t.Errorf("Write of message %d, %v: %x, %d", i, m, b, e)
		}
	}
}

func TestWriteExample(t *testing.T) { // P4.1
	b, e := Write(Msg{Chaddr: make([]byte, 16), Opts: []api.Opt{{Code: 53, Data: []byte{1}}}})
	want := slices.Concat(make([]byte, 236), []byte{0x63, 0x82, 0x53, 0x63, 0x35, 1, 1, 255}, make([]byte, 56))
	if !bytes.Equal(b, want) || e != api.OK {
		t.Errorf("Write of zeros: %x, %d", b, e)
	}
	b, e = Write(plain(api.Opt{Code: 12, Data: []byte("hay")}))
	if len(b) != 300 || e != api.OK {
		t.Fatalf("Write: %x, %d", b, e)
	}
	if string(b[:28]) != "\x01\x02\x06\x03\x0a\x0b\x0c\x0d\x0e\x0f\x80\x01\x10\x11\x12\x13\x14\x15\x16\x17\x18\x19\x1a\x1b\x1c\x1d\x1e\x1f" {
		t.Errorf("Write of the numbers: %x", b[:28])
	}
	if string(b[28:44]) != "hardware-address" || !bytes.Equal(b[44:236], make([]byte, 192)) || string(b[236:247]) != "\x63\x82\x53\x63\x0c\x03hay\xff\x00" {
		t.Errorf("Write of the rest: %x", b[28:])
	}
}

func TestWriteNumbers(t *testing.T) { // P4.1: each number in its own place, from its least to its greatest value
	for _, h := range headerNumbers() {
		for _, v := range []int{0, 1, 2, h.greatest / 2, h.greatest - 1, h.greatest} {
			m := Msg{Chaddr: make([]byte, 16)}
			*h.of(&m) = v
			b, e := Write(m)
			if len(b) != 300 || e != api.OK {
				t.Fatalf("Write with %s %d: %x, %d", h.name, v, b, e)
			}
			want := make([]byte, 8)
			binary.BigEndian.PutUint64(want, uint64(v))
			if !bytes.Equal(b[h.at:h.at+h.n], want[8-h.n:]) {
				t.Errorf("Write with %s %d: %x", h.name, v, b[:28])
			}
			clear(b[h.at : h.at+h.n])
			if !bytes.Equal(b[:236], make([]byte, 236)) {
				t.Errorf("Write with %s %d: %x beside it", h.name, v, b[:236])
			}
		}
	}
}

func TestWriteLengths(t *testing.T) { // P4.1: at least 300 bytes, at most MaxPacket
	for n := 3; n <= 1400; n++ {
		m := plain(sized(n)...)
		b, e := Write(m)
		switch {
		case 240+n > 1500:
			if b != nil || e != api.ErrFull || !Right(m) {
				t.Errorf("Write of %d bytes of options: %d bytes, %d", n, len(b), e)
			}
		case len(b) != max(300, 240+n) || e != api.OK || b[240+n-1] != 255 || !bytes.Equal(b[240+n:], make([]byte, max(0, 60-n))):
			t.Errorf("Write of %d bytes of options: %d bytes, %d", n, len(b), e)
		}
	}
	if b, e := Write(plain(manyOptions(60, api.MaxOpts, api.MaxData)...)); b != nil || e != api.ErrFull {
		t.Errorf("Write of the longest options: %d bytes, %d", len(b), e)
	}
}

func TestWriteWrong(t *testing.T) { // P4.1
	for i, m := range wrongMessages() {
		if b, e := Write(m); b != nil || e != api.ErrArg {
			t.Errorf("Write of wrong message %d, %v: %x, %d", i, m, b, e)
		}
	}
	for _, h := range headerNumbers() { // ErrArg ahead of ErrFull
		for _, v := range []int{-1, h.greatest + 1} {
			m := plain(manyOptions(60, api.MaxOpts, api.MaxData)...)
			*h.of(&m) = v
			if b, e := Write(m); b != nil || e != api.ErrArg {
				t.Errorf("Write of too much with %s %d: %x, %d", h.name, v, b, e)
			}
		}
	}
	if b, e := Write(plain(append(manyOptions(60, 59, api.MaxData), api.Opt{Code: 52, Data: []byte{1}})...)); b != nil || e != api.ErrArg {
		t.Errorf("Write of too much with overload: %x, %d", b, e)
	}
}

func TestRead(t *testing.T) { // P4.2
	for i, m := range someMessages() {
		b := handWrite(m)
		if k, e := Read(b); !same(k, m) || e != api.OK {
			t.Errorf("Read of message %d: %v, %d, not %v", i, k, e, m)
		}
	}
	kind := api.Opt{Code: 53, Data: []byte{1}}
	reads(t, packet(nil, nil, nil))
	reads(t, packet([]byte{255}, nil, nil))
	reads(t, packet([]byte{53, 1, 1}, nil, nil), kind)
	reads(t, packet([]byte{53, 1, 1, 255, 12}, nil, nil), kind)
	reads(t, packet([]byte{0, 53, 1, 1, 12, 0, 255, 52, 1, 9}, nil, nil), kind, api.Opt{Code: 12})
	reads(t, packet([]byte{53, 0, 12, 0, 53, 1, 1}, nil, nil), kind, api.Opt{Code: 12})
}

func TestReadNumbers(t *testing.T) { // P4.2: each number from its own place
	for _, h := range headerNumbers() {
		for _, v := range []int{0, 1, 2, h.greatest / 2, h.greatest - 1, h.greatest} {
			b := handWrite(Msg{Chaddr: make([]byte, 16)})
			bytesOf := make([]byte, 8)
			binary.BigEndian.PutUint64(bytesOf, uint64(v))
			copy(b[h.at:], bytesOf[8-h.n:])
			want := Msg{Chaddr: make([]byte, 16)}
			*h.of(&want) = v
			if m, e := Read(b); !same(m, want) || e != api.OK {
				t.Errorf("Read with %s %d: %v, %d", h.name, v, m, e)
			}
		}
	}
	for n := range 256 {
		b := packet([]byte{53, 1, 1, 255}, nil, nil)
		b[2] = byte(n)
		m, e := Read(b)
		if n <= 16 && (m.Hlen != n || string(m.Chaddr) != "hardware-address" || e != api.OK) || n > 16 && (!empty(m) || e != api.ErrForm) {
			t.Errorf("Read with Hlen %d: %v, %d", n, m, e)
		}
	}
}

func TestReadLengths(t *testing.T) { // P4.2
	refuses(t, nil, api.ErrMore)
	refuses(t, []byte{}, api.ErrMore)
	refuses(t, []byte{0x63, 0x82, 0x53, 0x63}, api.ErrMore)
	whole := packet(make([]byte, 2000), nil, nil)
	for n := range whole {
		switch {
		case n < 240:
			refuses(t, whole[:n], api.ErrMore) // bytes behind the length are none of b's
		case n > 1500:
			refuses(t, whole[:n], api.ErrFull)
		default:
			reads(t, whole[:n])
		}
	}
	reads(t, packet(append([]byte{53, 1, 1, 255}, make([]byte, 1256)...), nil, nil), api.Opt{Code: 53, Data: []byte{1}})
}

func TestReadCookie(t *testing.T) { // P4.2
	for i := 236; i < 240; i++ {
		for x := range 256 {
			b := packet([]byte{53, 1, 1, 255}, nil, nil)
			if int(b[i]) != x {
				b[i] = byte(x)
				refuses(t, b, api.ErrForm)
			}
		}
	}
	b := packet([]byte{53, 1, 1, 255}, nil, nil)
	refuses(t, b[1:], api.ErrForm)
	refuses(t, append([]byte{0}, b...), api.ErrForm)
	slices.Reverse(b[236:240])
	refuses(t, b, api.ErrForm)
	refuses(t, make([]byte, 240), api.ErrForm)
	refuses(t, make([]byte, 1500), api.ErrForm)
}

func TestReadFirstError(t *testing.T) { // P4.2: the order of the errors
	full := optionBytes(manyOptions(60, api.MaxOpts+1, 0)...)
	for _, spoilt := range [][]byte{nil, {53}, {52, 0}, full} {
		b := packet(append(spoilt, make([]byte, 1261)...), nil, nil)
		refuses(t, b[:1501], api.ErrFull)
		b[238], b[2] = 0, 17
		refuses(t, b[:239], api.ErrMore)
		refuses(t, b[:1501], api.ErrFull)
		refuses(t, b[:1500], api.ErrForm)
	}
	b := packet(full, nil, nil)
	refuses(t, b, api.ErrFull)
	b[236] = 0
	refuses(t, b, api.ErrForm) // the cookie ahead of the options
	b = packet(full, nil, nil)
	b[2] = 17
	refuses(t, b, api.ErrForm) // Hlen ahead of the options
	refuses(t, packet(append([]byte{52, 0}, full...), nil, nil), api.ErrFull)
	refuses(t, packet(append([]byte{52, 2, 1, 1}, full...), nil, nil), api.ErrFull) // the options ahead of overload
}

func TestReadOptionsWrong(t *testing.T) { // P4.2: the errors of tlv.Read
	refuses(t, packet([]byte{53}, nil, nil), api.ErrForm)
	refuses(t, packet([]byte{53, 1}, nil, nil), api.ErrForm)
	refuses(t, packet([]byte{53, 2, 1}, nil, nil), api.ErrForm)
	refuses(t, packet([]byte{52}, nil, nil), api.ErrForm)
	refuses(t, packet([]byte{52, 1}, nil, nil), api.ErrForm)
	refuses(t, packet(optionBytes(manyOptions(60, 61, 0)...), nil, nil), api.ErrFull)
	refuses(t, packet(overloads(1, optionBytes(manyOptions(60, 60, 0)...)...), nil, nil), api.ErrFull) // overload counts as one of them
	refuses(t, packet(optionBytes(api.Opt{Code: 9, Data: make([]byte, 601)}), nil, nil), api.ErrFull)
	reads(t, packet(overloads(1, optionBytes(manyOptions(60, 59, 0)...)...), nil, nil), manyOptions(60, 59, 0)...)
}

func TestReadOverload(t *testing.T) { // P4.2, P4.4
	file, name := []byte{12, 1, 'f', 255}, []byte{13, 1, 'n', 255}
	f, n := api.Opt{Code: 12, Data: []byte("f")}, api.Opt{Code: 13, Data: []byte("n")}
	kind := api.Opt{Code: 53, Data: []byte{1}}
	reads(t, packet([]byte{53, 1, 1, 255}, file, name), kind) // without overload the fields are no options
	reads(t, packet(overloads(1), file, name), f)
	reads(t, packet(overloads(2), file, name), n)
	reads(t, packet(overloads(3), file, name), f, n) // the file field first
	reads(t, packet(overloads(1, 53, 1, 1, 255), file, name), kind, f)
	reads(t, packet(overloads(2, 53, 1, 1), file, name), kind, n)
	reads(t, packet(overloads(3, 53, 1, 1, 255), file, name), kind, f, n)
	reads(t, packet([]byte{53, 1, 1, 52, 1, 3, 54, 0, 255, 52}, file, name), kind, api.Opt{Code: 54}, f, n)
	reads(t, packet([]byte{53, 1, 1, 54, 0, 52, 1, 3}, file, name), kind, api.Opt{Code: 54}, f, n)
	reads(t, packet([]byte{52, 0, 53, 1, 1, 52, 1, 3}, file, name), kind, f, n) // overload in parts is one option
	for v := range byte(4) {
		if v > 0 {
			reads(t, packet(overloads(v), nil, nil)) // fields of zeros have no options
			reads(t, packet(overloads(v, 53, 1, 1), []byte{255, 1}, []byte{0, 255, 9}), kind)
		}
	}
}

func TestReadOverloadTogether(t *testing.T) { // P4.2, P4.4: one code in several places
	reads(t, packet(overloads(3, 9, 1, 1), []byte{9, 1, 2, 255}, []byte{9, 1, 3, 255}), api.Opt{Code: 9, Data: []byte{1, 2, 3}})
	reads(t, packet(overloads(1, 9, 1, 1), []byte{9, 1, 2, 255}, []byte{9, 1, 3, 255}), api.Opt{Code: 9, Data: []byte{1, 2}})
	reads(t, packet(overloads(2, 9, 1, 1), []byte{9, 1, 2, 255}, []byte{9, 1, 3, 255}), api.Opt{Code: 9, Data: []byte{1, 3}})
	reads(t, packet(overloads(3), []byte{7, 0, 9, 1, 2, 255}, []byte{8, 0, 9, 1, 3, 255}),
		api.Opt{Code: 7}, api.Opt{Code: 9, Data: []byte{2, 3}}, api.Opt{Code: 8})
	reads(t, packet([]byte{8, 1, 1, 52, 1, 3, 9, 1, 1, 255}, []byte{7, 0, 9, 1, 2, 7, 1, 9, 255}, []byte{7, 1, 8, 8, 1, 3, 255}),
		api.Opt{Code: 8, Data: []byte{1, 3}}, api.Opt{Code: 9, Data: []byte{1, 2}}, api.Opt{Code: 7, Data: []byte{9, 8}})
}

func TestReadOverloadWhole(t *testing.T) { // P4.2: fields that are options to their last byte, with no 255 there, and no further
	file, name := someBytes(126), someBytes(62)
	f, n := api.Opt{Code: 12, Data: file}, api.Opt{Code: 13, Data: name}
	reads(t, packet(overloads(1), optionBytes(f), nil), f)
	reads(t, packet(overloads(2), nil, optionBytes(n)), n)
	reads(t, packet(overloads(3), optionBytes(f), optionBytes(n)), f, n)
	reads(t, packet(overloads(3), append(make([]byte, 126), 12, 0), append(make([]byte, 62), 13, 0)), api.Opt{Code: 12}, api.Opt{Code: 13})
	reads(t, packet(overloads(3), append(make([]byte, 127), 255), append(make([]byte, 63), 255)))
	reads(t, packet(overloads(1), []byte{12, 1, 'f'}, nil), api.Opt{Code: 12, Data: []byte("f")})
	reads(t, packet(overloads(2), nil, []byte{12, 1, 'f', 0, 0, 13, 0}), api.Opt{Code: 12, Data: []byte("f")}, api.Opt{Code: 13})
}

func TestReadOverloadWrong(t *testing.T) { // P4.2
	for v := range 256 {
		if v < 1 || v > 3 {
			refuses(t, packet(overloads(byte(v), 255), nil, nil), api.ErrForm)
			refuses(t, packet([]byte{53, 1, 1, 52, 1, byte(v)}, nil, nil), api.ErrForm)
		}
	}
	refuses(t, packet([]byte{52, 0, 255}, nil, nil), api.ErrForm)
	refuses(t, packet([]byte{52, 0, 53, 1, 1, 255}, nil, nil), api.ErrForm)
	for x := range byte(5) {
		refuses(t, packet([]byte{52, 2, x, 1, 255}, nil, nil), api.ErrForm)
		refuses(t, packet([]byte{52, 2, 1, x, 255}, nil, nil), api.ErrForm)
		refuses(t, packet([]byte{52, 1, x, 53, 0, 52, 1, 1, 255}, nil, nil), api.ErrForm) // two parts of one byte are two bytes
	}
	refuses(t, packet(optionBytes(api.Opt{Code: 52, Data: make([]byte, 600)}), nil, nil), api.ErrForm)
	refuses(t, packet(optionBytes(api.Opt{Code: 52, Data: make([]byte, 601)}), nil, nil), api.ErrFull)
}

func TestReadOverloadInFields(t *testing.T) { // P4.2: overload in a field, whatever its data
	for _, data := range [][]byte{nil, {0}, {1}, {2}, {3}, {4}, {1, 2}} {
		o := api.Opt{Code: 52, Data: data}
		for _, field := range [][]byte{optionBytes(o), optionBytes(o, api.Opt{Code: 9}), optionBytes(api.Opt{Code: 9}, o), append(optionBytes(o), 255)} {
			refuses(t, packet(overloads(1), field, nil), api.ErrForm)
			refuses(t, packet(overloads(2), nil, field), api.ErrForm)
			refuses(t, packet(overloads(3), field, nil), api.ErrForm)
			refuses(t, packet(overloads(3), nil, field), api.ErrForm)
			reads(t, packet(overloads(1), nil, field)) // a field that overload does not name is not looked at
			reads(t, packet(overloads(2), field, nil))
			reads(t, packet(nil, field, field))
			reads(t, packet(overloads(3), append([]byte{255}, field...), append([]byte{0, 255}, field...)))
		}
	}
}

func TestReadFieldsWrong(t *testing.T) { // P4.2: bytes that end too soon, in the field and not in what follows it
	for _, end := range [][]byte{{9}, {9, 1}, {9, 255}, {9, 3, 1, 1}, {52, 1}} {
		file, name := append(make([]byte, 128-len(end)), end...), append(make([]byte, 64-len(end)), end...)
		refuses(t, packet(overloads(1), file, nil), api.ErrForm)
		refuses(t, packet(overloads(3), file, nil), api.ErrForm)
		refuses(t, packet(overloads(2), nil, name), api.ErrForm)
		refuses(t, packet(overloads(3), nil, name), api.ErrForm)
		reads(t, packet(overloads(2), file, nil))
		reads(t, packet(overloads(1), nil, name))
		reads(t, packet(nil, file, name))
	}
	refuses(t, packet(overloads(1), append([]byte{9, 127}, make([]byte, 126)...), nil), api.ErrForm)
	refuses(t, packet(overloads(2), nil, append([]byte{9, 63}, make([]byte, 62)...)), api.ErrForm)
	refuses(t, packet(overloads(1), optionBytes(manyOptions(60, 61, 0)...), nil), api.ErrFull)
	refuses(t, packet(overloads(1, 53, 0), optionBytes(manyOptions(60, 61, 0)...), nil), api.ErrFull)
}

func TestReadJoinedFull(t *testing.T) { // P4.2: options that are valid apart, and joined are not
	for n := range 60 {
		some := optionBytes(manyOptions(60, n, 0)...)
		room := min(60-n, 64) // 60 options are the most, and a field of 128 bytes has room for 64
		file := manyOptions(160, room, 0)
		reads(t, packet(overloads(1, some...), optionBytes(file...), nil), append(manyOptions(60, n, 0), file...)...)
		if n > 0 {
			refuses(t, packet(overloads(1, some...), optionBytes(manyOptions(160, room+1, 0)...), nil), api.ErrFull)
		}
		if n >= 40 {
			name := manyOptions(160, room, 0)
			reads(t, packet(overloads(2, some...), nil, optionBytes(name...)), append(manyOptions(60, n, 0), name...)...)
			refuses(t, packet(overloads(2, some...), nil, optionBytes(manyOptions(160, room+1, 0)...)), api.ErrFull)
			refuses(t, packet(overloads(3, some...), optionBytes(name...), []byte{240, 0}), api.ErrFull) // the name field counts behind the file field
		}
	}
	for n := 480; n <= 600; n++ {
		some := optionBytes(api.Opt{Code: 9, Data: someBytes(n)})
		file, name := bytes.Repeat([]byte{7}, 600-n), bytes.Repeat([]byte{7}, min(60, 600-n))
		reads(t, packet(overloads(1, some...), optionBytes(api.Opt{Code: 9, Data: file}), nil), api.Opt{Code: 9, Data: append(someBytes(n), file...)})
		refuses(t, packet(overloads(1, some...), optionBytes(api.Opt{Code: 9, Data: append(file, 7)}), nil), api.ErrFull)
		refuses(t, packet(overloads(3, some...), optionBytes(api.Opt{Code: 9, Data: file}), []byte{9, 1, 1}), api.ErrFull)
		reads(t, packet(overloads(2, some...), nil, optionBytes(api.Opt{Code: 9, Data: name})), api.Opt{Code: 9, Data: append(someBytes(n), name...)})
		if n >= 540 {
			refuses(t, packet(overloads(2, some...), nil, optionBytes(api.Opt{Code: 9, Data: append(name, 7)})), api.ErrFull)
		}
	}
}

func TestReadFieldsFirstError(t *testing.T) { // P4.2: of a field its own error, overload in it, the join; the file field ahead of the name field
	many := optionBytes(manyOptions(60, 59, 0)...)
	cut, full := append(make([]byte, 63), 9), []byte{200, 0, 201, 0}
	refuses(t, packet(overloads(2, many...), nil, full), api.ErrFull)
	refuses(t, packet(overloads(2, many...), nil, append(full, 52, 0)), api.ErrForm)
	refuses(t, packet(overloads(2, many...), nil, append(append(full, make([]byte, 59)...), 9)), api.ErrForm)
	refuses(t, packet(overloads(1, many...), append(full, 52, 1, 1), nil), api.ErrForm)
	refuses(t, packet(overloads(1), append([]byte{52, 0}, optionBytes(manyOptions(60, 60, 0)...)...), nil), api.ErrFull)
	refuses(t, packet(overloads(3, many...), full, cut), api.ErrFull)
	refuses(t, packet(overloads(3, many...), full, []byte{52, 0}), api.ErrFull)
	refuses(t, packet(overloads(3, many...), append(make([]byte, 127), 9), full), api.ErrForm)
	refuses(t, packet(overloads(3, many...), []byte{52, 0}, full), api.ErrForm)
	refuses(t, packet([]byte{52, 2, 3, 3}, optionBytes(manyOptions(60, 61, 0)...), nil), api.ErrForm)
	refuses(t, packet(overloads(4), optionBytes(manyOptions(60, 61, 0)...), nil), api.ErrForm)
}

func TestReadOfWrite(t *testing.T) { // P4.3
	for i, m := range someMessages() {
		b, e := Write(m)
		if e != api.OK {
			t.Fatalf("Write of message %d: %d", i, e)
		}
		if k, e := Read(b); !same(k, m) || e != api.OK {
			t.Errorf("Read of Write of message %d, %v: %v, %d", i, m, k, e)
		}
	}
}

// randomOptions answers at most n bytes that are often options, of few codes or of many, seldom overload.
func randomOptions(r *rand.Rand, n int) []byte {
	var b []byte
	codes := []int{3, 30, 250}[r.Intn(3)]
	for len(b) < n && r.Intn(40) > 0 {
		data := make([]byte, []int{0, 1, r.Intn(9), r.Intn(60), r.Intn(256)}[r.Intn(5)])
		r.Read(data)
		c := (r.Intn(codes) + 60) % 256
		if c == 52 && r.Intn(4) > 0 {
			c = 51
		}
		if c == 255 && r.Intn(4) > 0 {
			c = 0
		}
		if part := optionBytes(api.Opt{Code: c, Data: data}); len(b)+len(part) <= n || r.Intn(20) == 0 {
			b = append(b, part...)
		}
	}
	return b[:min(n, len(b))]
}

// randomPacket answers bytes that are often a message.
func randomPacket(r *rand.Rand) []byte {
	options := randomOptions(r, 1257)
	if r.Intn(4) > 0 {
		options = slices.Concat([]byte{52, 1, byte(r.Intn(5))}, options)
	}
	b := packet(options, randomOptions(r, 128), randomOptions(r, 64))
	r.Read(b[:44])
	b[2] %= 18
	if r.Intn(50) == 0 {
		b[r.Intn(len(b))]++
	}
	return b
}

// handRead answers what P4.2 says of bytes, in the order of its words.
func handRead(b []byte) (Msg, api.Errno) {
	if len(b) < 240 {
		return Msg{}, api.ErrMore
	}
	if len(b) > 1500 {
		return Msg{}, api.ErrFull
	}
	if binary.BigEndian.Uint32(b[236:]) != 0x63825363 || b[2] > 16 {
		return Msg{}, api.ErrForm
	}
	l, e := tlv.Read(b[240:])
	if e != api.OK {
		return Msg{}, e
	}
	var fields [][]byte
	for i, o := range l {
		if o.Code == 52 {
			if len(o.Data) != 1 || o.Data[0] < 1 || o.Data[0] > 3 {
				return Msg{}, api.ErrForm
			}
			fields = [][][]byte{{b[108:236]}, {b[44:108]}, {b[108:236], b[44:108]}}[o.Data[0]-1]
			l = slices.Concat(l[:i], l[i+1:])
			break
		}
	}
	for _, f := range fields {
		more, e := tlv.Read(f)
		if e != api.OK {
			return Msg{}, e
		}
		if slices.ContainsFunc(more, func(o api.Opt) bool { return o.Code == 52 }) {
			return Msg{}, api.ErrForm
		}
		if l, e = tlv.Join(l, more); e != api.OK {
			return Msg{}, e
		}
	}
	m := Msg{Chaddr: b[28:44], Opts: l}
	for _, h := range headerNumbers() {
		for _, x := range b[h.at : h.at+h.n] {
			*h.of(&m) = *h.of(&m)*256 + int(x)
		}
	}
	return m, api.OK
}

func TestWriteOfRead(t *testing.T) { // P4.2, P4.3, P0: any bytes
	r := rand.New(rand.NewSource(17))
	counts := map[api.Errno]int{}
	long, moved := 0, 0
	for i := range 30000 {
		b := randomPacket(r)
		if i%50 == 0 {
			b = make([]byte, r.Intn(1700))
			r.Read(b)
		}
		m, e := Read(b)
		want, wantE := handRead(b)
		counts[e]++
		if e != wantE || !same(m, want) || (e == api.OK) != Right(m) || e != api.OK && !empty(m) {
			t.Fatalf("Read of %x: %v, %d, not %v, %d", b, m, e, want, wantE)
		}
		if e != api.OK {
			continue
		}
		again, e := Write(m)
		if size := 241 + len(optionBytes(m.Opts...)); size > 1500 {
			long++
			if again != nil || e != api.ErrFull {
				t.Fatalf("Write of %d bytes: %x, %d", size, again, e)
			}
			continue
		}
		if !bytes.Equal(again, b) {
			moved++
		}
		if k, e2 := Read(again); e != api.OK || !same(k, m) || e2 != api.OK {
			t.Fatalf("Read of Write of Read of %x: %v, %d, %d", b, k, e, e2)
		}
	}
	if min(counts[api.OK], counts[api.ErrForm], counts[api.ErrFull], counts[api.ErrMore], long, moved) < 30 {
		t.Errorf("too few of one kind: %v, %d, %d", counts, long, moved)
	}
}

// wholeOptions answers at most n bytes of whole parts, with neither an end nor overload among them.
func wholeOptions(r *rand.Rand, n int) []byte {
	var b []byte
	codes := []int{3, 30, 190}[r.Intn(3)]
	for r.Intn(30) > 0 {
		data := make([]byte, []int{0, 1, r.Intn(9), r.Intn(60), r.Intn(256)}[r.Intn(5)])
		r.Read(data)
		part := append(make([]byte, r.Intn(2)), optionBytes(api.Opt{Code: 60 + r.Intn(codes), Data: data})...)
		if len(b)+len(part) <= n {
			b = append(b, part...)
		}
	}
	return b
}

func TestFieldsReadLikeOptions(t *testing.T) { // P4.4
	r := rand.New(rand.NewSource(19))
	counts := map[api.Errno]int{}
	for range 5000 {
		options, file, name := wholeOptions(r, 1000), wholeOptions(r, 128), wholeOptions(r, 64)
		for v, after := range [][]byte{slices.Concat(options, file), slices.Concat(options, name), slices.Concat(options, file, name)} {
			m, e := Read(packet(after, nil, nil))
			counts[e]++
			if k, e2 := Read(packet(overloads(byte(v+1), options...), file, name)); !same(m, k) || e != e2 {
				t.Fatalf("Read of options in fields, overload %d: %v, %d, not %v, %d", v+1, k, e2, m, e)
			}
		}
	}
	if min(counts[api.OK], counts[api.ErrFull]) < 30 {
		t.Errorf("too few of one kind: %v", counts)
	}
}

func TestAnyMessages(t *testing.T) { // P0: no call panics, and errors come with zero values
	r := rand.New(rand.NewSource(23))
	values := []int{math.MinInt, -1 << 32, -1, 0, 0, 1, 1, 16, 17, 255, 256, 65535, 65536, 1<<32 - 1, 1 << 32, math.MaxInt}
	codes := []int{math.MinInt, -1, 0, 1, 51, 52, 53, 254, 255, 256, 308, math.MaxInt}
	counts := map[api.Errno]int{}
	for range 20000 {
		m := randomMessage(r)
		for _, h := range headerNumbers() {
			if r.Intn(20) == 0 {
				*h.of(&m) = values[r.Intn(len(values))]
			}
		}
		if r.Intn(20) == 0 {
			m.Chaddr = make([]byte, r.Intn(20))
		}
		if r.Intn(20) == 0 {
			m.Chaddr = nil
		}
		for range r.Intn(3) {
			m.Opts = append(m.Opts, api.Opt{Code: codes[r.Intn(len(codes))], Data: make([]byte, r.Intn(5)*200)})
		}
		if r.Intn(20) == 0 {
			m.Opts = append(m.Opts, sized(900+r.Intn(800))...)
		}
		b, e := Write(m)
		counts[e]++
		if (e == api.ErrArg) == Right(m) || (b == nil) != (e != api.OK) || e == api.OK && !bytes.Equal(b, handWrite(m)) {
			t.Errorf("Write(%v): %x, %d", m, b, e)
		}
	}
	if min(counts[api.OK], counts[api.ErrArg], counts[api.ErrFull]) < 30 {
		t.Errorf("too few of one kind: %v", counts)
	}
}

// fill writes one byte all over a slice, its spare capacity included.
func fill(b []byte, with byte) {
	b = b[:cap(b)]
	for i := range b {
		b[i] = with
	}
}

// roomyBytes answers a copy with spare capacity.
func roomyBytes(b []byte) []byte {
	c := append(make([]byte, 0, len(b)+50), b...)
	fill(c[len(c):], 77)
	return c
}

// roomy answers a copy of a message with spare capacity all over, and what checks that none of it has changed.
func roomy(m Msg) (Msg, func() bool) {
	m.Chaddr = roomyBytes(m.Chaddr)
	l := make([]api.Opt, 0, len(m.Opts)+3)
	for _, o := range m.Opts {
		l = append(l, api.Opt{Code: o.Code, Data: roomyBytes(o.Data)})
	}
	m.Opts = l
	for i := range l[len(l):cap(l)] {
		l[len(l):cap(l)][i] = api.Opt{Code: 1000 + i, Data: []byte{78}}
	}
	whole := func() Msg {
		w := Msg{Chaddr: bytes.Clone(m.Chaddr[:cap(m.Chaddr)])}
		for _, o := range l[:cap(l)] {
			w.Opts = append(w.Opts, api.Opt{Code: o.Code, Data: bytes.Clone(o.Data[:cap(o.Data)])})
		}
		return w
	}
	before := whole()
	return m, func() bool { return same(whole(), before) }
}

// spoil writes all over a message's memory, and tells whether any two of its lists share some.
func spoil(m Msg) bool {
	lists := [][]byte{m.Chaddr}
	for _, o := range m.Opts {
		lists = append(lists, o.Data)
	}
	for i, b := range lists {
		fill(b, byte(i))
	}
	apart := true
	for i, b := range lists {
		for _, x := range b[:cap(b)] {
			apart = apart && x == byte(i)
		}
	}
	l := m.Opts[:cap(m.Opts)]
	for i := range l {
		l[i] = api.Opt{Code: -9}
	}
	return apart
}

func TestMemoryOfMessages(t *testing.T) { // P0, R3: arguments stay as they are, and answers are memory of their own
	for i, s := range append(someMessages(), wrongMessages()...) {
		m, stays := roomy(s)
		Right(m)
		b, e := Write(m)
		first := bytes.Clone(b)
		fill(b, 99)
		if !stays() {
			t.Fatalf("a call shares or changes message %d", i)
		}
		if again, e2 := Write(m); !bytes.Equal(again, first) || e2 != e {
			t.Errorf("Write of message %d answers otherwise the second time", i)
		}
	}
}

func TestMemoryOfBytes(t *testing.T) { // P0, R3
	packets := [][]byte{
		packet(nil, nil, nil), packet(overloads(3, 53, 1, 1), []byte{53, 1, 2, 9, 2, 1, 1}, []byte{53, 1, 1, 8, 1, 1}),
		packet([]byte{53, 1, 1, 52, 1, 1, 54, 1, 9}, []byte{9, 2, 1, 1}, nil), packet(overloads(2), nil, []byte{9, 2, 1, 1}),
		packet([]byte{53, 1, 1, 52, 1, 1, 54, 1, 9}, nil, nil), packet([]byte{52, 1, 9}, nil, nil), packet(overloads(1), []byte{52, 0}, nil),
	}
	for _, m := range someMessages() {
		packets = append(packets, handWrite(m))
	}
	r := rand.New(rand.NewSource(29))
	for range 500 {
		packets = append(packets, randomPacket(r))
	}
	for i, p := range packets {
		b := roomyBytes(p)
		before := bytes.Clone(b[:cap(b)])
		m, e := Read(b)
		first, _ := roomy(m)
		if !spoil(m) {
			t.Errorf("Read of packet %d: two lists share memory", i)
		}
		if !bytes.Equal(b[:cap(b)], before) {
			t.Errorf("Read of packet %d shares or changes its argument", i)
		}
		if again, e2 := Read(b); !same(again, first) || e2 != e {
			t.Errorf("Read of packet %d answers otherwise the second time", i)
		}
	}
}
