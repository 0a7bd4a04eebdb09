package key

import (
	"bytes"
	"encoding/hex"
	"math"
	"math/rand"
	"slices"
	"strings"
	"testing"

	"boarder/api"
	"boarder/msg"
)

// edgeBytes are those at which a sign, a rune or a digit may go wrong; 45 is the hyphen.
var edgeBytes = []byte{0, 1, 9, 10, 15, 16, 45, '0', 'h', 'i', 127, 128, 159, 160, 195, 254, 255}

// someBytes answers n bytes from a fixed seed.
func someBytes(n int) []byte {
	b := make([]byte, n)
	rand.New(rand.NewSource(int64(n) + 7)).Read(b)
	return b
}

// options answers a list of one option Client with these data.
func options(data []byte) []api.Opt {
	return []api.Opt{{Code: 61, Data: data}}
}

// manyOptions answers n options of the codes from first on, with size bytes each.
func manyOptions(first, n, size int) []api.Opt {
	var l []api.Opt
	for i := range n {
		l = append(l, api.Opt{Code: first + i, Data: bytes.Repeat([]byte{byte(i + 1)}, size)})
	}
	return l
}

// plain answers a valid message with a hardware address of so many bytes, and these options.
func plain(hlen int, l ...api.Opt) msg.Msg {
	return msg.Msg{
		Op: 1, Htype: 6, Hlen: hlen, Hops: 3, Xid: 0x0a0b0c0d, Secs: 9, Flags: 0x8000,
		Ci: 0x0a000001, Yi: 0x0a000002, Si: 0x0a000003, Gi: 0x0a000004,
		Chaddr: []byte("\x00\x2d\x7f\x80\xffhard-ware-x"), Opts: l,
	}
}

// headers answers messages that have the same options, and different headers.
func headers(l ...api.Opt) []msg.Msg {
	ms := []msg.Msg{
		{Chaddr: make([]byte, 16), Opts: l},
		{Op: 255, Htype: 255, Hlen: 16, Hops: 255, Xid: 1<<32 - 1, Secs: 65535, Flags: 65535,
			Ci: api.MaxAddr, Yi: api.MaxAddr, Si: api.MaxAddr, Gi: api.MaxAddr, Chaddr: bytes.Repeat([]byte{255}, 16), Opts: l},
	}
	for n := range 17 {
		m, other := plain(n, l...), plain(n, l...)
		other.Htype, other.Chaddr = 0, someBytes(16)
		ms = append(ms, m, other)
	}
	return ms
}

// otherOptions answers lists of options without a key: no option Client, or one of fewer than two bytes.
func otherOptions() [][]api.Opt {
	client := api.Opt{Code: 61, Data: []byte{9}}
	return [][]api.Opt{
		nil, {}, options(nil), options([]byte{}), options([]byte{0}), options([]byte{255}), {{Code: 53, Data: []byte{1}}, client}, {client, {Code: 53}},
		{{Code: 60, Data: []byte("ab")}, {Code: 62, Data: []byte("ab")}}, {{Code: 1, Data: []byte("ab")}}, {{Code: 254, Data: someBytes(300)}},
		{{Code: 60, Data: someBytes(api.MaxData)}, client, {Code: 62, Data: someBytes(256)}}, manyOptions(62, api.MaxOpts, 7), append(manyOptions(62, api.MaxOpts-1, 2), client),
	}
}

// someKeys answers valid keys: the edges, and others from a fixed seed.
func someKeys() []string {
	ks := []string{"iab", "hab", "iii", "hhh", "i--", "h--", "i-0", "i-0102", "h-0102", "i\x00\x00", "i\xff\xff", "iéß", "h\x01\x02\x00\x00\x00\x00\x07"}
	for n := 2; n <= 255; n++ {
		ks = append(ks, "i"+string(someBytes(n)))
	}
	for n := 2; n <= 17; n++ {
		ks = append(ks, "h"+string(someBytes(n)))
	}
	for _, x := range edgeBytes {
		for _, n := range []int{2, 17} {
			rest := strings.Repeat(string([]byte{x}), n)
			ks = append(ks, "i"+rest, "h"+rest)
		}
		ks = append(ks, "ia"+string([]byte{x}), "h"+string([]byte{x})+"a", "i"+strings.Repeat(string([]byte{x}), 255))
	}
	return ks
}

// wrongKeys answers strings that are no valid keys.
func wrongKeys() []string {
	ks := []string{"", "i", "h", "a", "-", "\x00", "\xff", "é", " iab", "Iab", "Hab", "ab", "abc", "jab", "gab", "\x00ab", "\xffab", "0ab", "-ab", "éab", "\xe9ab", "x" + string(someBytes(17))}
	for _, x := range edgeBytes {
		ks = append(ks, "i"+string([]byte{x}), "h"+string([]byte{x}))
	}
	for _, n := range []int{256, 257, 258, 260, 261, 511, 512, 600, 1 << 16, 1<<16 + 2, 100000} {
		ks = append(ks, "i"+string(someBytes(n)))
	}
	for _, n := range []int{18, 19, 32, 255, 256, 258, 1 << 16, 1<<16 + 2} {
		ks = append(ks, "h"+string(someBytes(n)))
	}
	return ks
}

// wrongNumbers answers messages with these options, each with one number of the header that is not valid.
func wrongNumbers(l ...api.Opt) []msg.Msg {
	var ms []msg.Msg
	for _, c := range []struct {
		of       func(m *msg.Msg) *int
		greatest int
	}{
		{func(m *msg.Msg) *int { return &m.Op }, 255}, {func(m *msg.Msg) *int { return &m.Htype }, 255}, {func(m *msg.Msg) *int { return &m.Hlen }, 16},
		{func(m *msg.Msg) *int { return &m.Hops }, 255}, {func(m *msg.Msg) *int { return &m.Xid }, 1<<32 - 1}, {func(m *msg.Msg) *int { return &m.Secs }, 65535},
		{func(m *msg.Msg) *int { return &m.Flags }, 65535}, {func(m *msg.Msg) *int { return &m.Ci }, api.MaxAddr}, {func(m *msg.Msg) *int { return &m.Yi }, api.MaxAddr},
		{func(m *msg.Msg) *int { return &m.Si }, api.MaxAddr}, {func(m *msg.Msg) *int { return &m.Gi }, api.MaxAddr},
	} {
		for _, v := range []int{-1, -256, c.greatest + 1, 1 << 33, math.MinInt, math.MaxInt} {
			for _, hlen := range []int{0, 6} {
				m := plain(hlen, l...)
				*c.of(&m) = v
				ms = append(ms, m)
			}
		}
	}
	return ms
}

// wrongMessages answers messages that are not valid: with a key, without one, and with too long a one.
func wrongMessages() []msg.Msg {
	ms := []msg.Msg{{}, {Hlen: 6}, {Hlen: 16, Chaddr: []byte{}}, {Opts: options([]byte("ab"))}, {Opts: options(someBytes(256))}}
	for _, client := range [][]byte{nil, {1}, {1, 2}, someBytes(255), someBytes(256), someBytes(api.MaxData)} {
		o := api.Opt{Code: 61, Data: client}
		ms = append(ms, wrongNumbers(o)...)
		for _, hlen := range []int{0, 1, 16} {
			for _, n := range []int{0, 1, 6, 15, 17, 300} {
				m := plain(hlen, o)
				m.Chaddr = someBytes(n)
				ms = append(ms, m)
				m.Chaddr = append(make([]byte, 0, 400), m.Chaddr...) // room behind the bytes counts for nothing
				ms = append(ms, m)
			}
			for _, p := range []api.Opt{{}, {Code: 255}, {Code: -1}, {Code: 256 + 61}, {Code: math.MinInt}, {Code: 52, Data: []byte{1}}, {Code: 61}, {Code: 61, Data: []byte("ab")}, {Code: 9, Data: make([]byte, api.MaxData+1)}} {
				ms = append(ms, plain(hlen, o, p), plain(hlen, p, o))
			}
			ms = append(ms, plain(hlen, append(manyOptions(62, api.MaxOpts, 1), o)...), plain(hlen, o, o))
		}
	}
	for _, hlen := range []int{0, 1, 16} {
		ms = append(ms, plain(hlen, options(someBytes(api.MaxData+1))...), plain(hlen, make([]api.Opt, 300)...), plain(hlen, api.Opt{}))
	}
	return append(ms, wrongNumbers()...)
}

// handOf answers what P7.1 says of a message, which must be valid.
func handOf(m msg.Msg) (string, api.Errno) {
	for _, o := range m.Opts {
		if o.Code == 61 && len(o.Data) >= 256 {
			return "", api.ErrFull
		}
		if o.Code == 61 && len(o.Data) >= 2 {
			return "i" + string(o.Data), api.OK
		}
	}
	k := "h" + string([]byte{byte(m.Htype)})
	for i := range m.Hlen {
		k += string(m.Chaddr[i : i+1])
	}
	if len(k) == 2 {
		return "", api.ErrNone
	}
	return k, api.OK
}

// of: does Of answer just this?
func of(t *testing.T, m msg.Msg, want string, wantE api.Errno) {
	t.Helper()
	if k, e := Of(m); k != want || e != wantE {
		t.Errorf("Of %v: %q, %d, not %q, %d", m, k, e, want, wantE)
	}
}

// parses: does Parse answer just this?
func parses(t *testing.T, s, want string, wantE api.Errno) {
	t.Helper()
	if k, e := Parse(s); k != want || e != wantE {
		t.Errorf("Parse(%q): %q, %d, not %q, %d", s[:min(len(s), 600)], k, e, want, wantE)
	}
}

func TestRight(t *testing.T) { // P7.1
	for _, k := range someKeys() {
		if !Right(k) {
			t.Errorf("Right(%q): false", k)
		}
	}
	for _, k := range wrongKeys() {
		if Right(k) {
			t.Errorf("Right of %d bytes, %q: true", len(k), k[:min(len(k), 30)])
		}
	}
	for n := range 700 {
		for letter := range 256 {
			k := string([]byte{byte(letter)}) + strings.Repeat("\xff", n)
			want := letter == 'i' && n >= 2 && n <= 255 || letter == 'h' && n >= 2 && n <= 17
			if Right(k) != want {
				t.Fatalf("Right of the letter %d and %d bytes: %v", letter, n, !want)
			}
		}
	}
}

func TestRightOfAnyBytes(t *testing.T) { // P7.1: the bytes behind the letter are any
	for x := range 256 {
		for _, k := range []string{"i" + string([]byte{byte(x), byte(x)}), "h" + string([]byte{byte(x), 0}), "h" + string([]byte{0, byte(x)})} {
			if !Right(k) || Right(k[:2]) || Right(k[1:2]) {
				t.Errorf("Right(%q): %v, of its first bytes %v, %v", k, Right(k), Right(k[:2]), Right(k[1:2]))
			}
		}
	}
}

func TestOfClient(t *testing.T) { // P7.1: the option Client at its edges, whatever Hlen is
	for _, hlen := range []int{0, 1, 16} {
		hardware, e := "h\x06\x00\x2d\x7f\x80\xffhard-ware-x"[:2+hlen], api.OK
		if hlen == 0 {
			hardware, e = "", api.ErrNone
		}
		for n := range api.MaxData + 1 {
			m := plain(hlen, options(someBytes(n))...)
			switch {
			case n < 2:
				of(t, m, hardware, e)
			case n > 255:
				of(t, m, "", api.ErrFull)
			default:
				of(t, m, "i"+string(someBytes(n)), api.OK)
			}
		}
		for _, x := range edgeBytes {
			of(t, plain(hlen, options([]byte{x})...), hardware, e)
			of(t, plain(hlen, options([]byte{x, x})...), "i"+string([]byte{x, x}), api.OK)
			of(t, plain(hlen, options(bytes.Repeat([]byte{x}, 255))...), "i"+strings.Repeat(string([]byte{x}), 255), api.OK)
			of(t, plain(hlen, options(bytes.Repeat([]byte{x}, 256))...), "", api.ErrFull)
		}
		of(t, plain(hlen), hardware, e)
		of(t, plain(hlen, api.Opt{Code: 60, Data: []byte("ab")}, api.Opt{Code: 61, Data: []byte("cd")}, api.Opt{Code: 62, Data: []byte("ef")}), "icd", api.OK)
		of(t, plain(hlen, append(manyOptions(62, api.MaxOpts-1, api.MaxData), api.Opt{Code: 61, Data: []byte("cd")})...), "icd", api.OK) // too long to be written, and valid
	}
}

func TestOfHardware(t *testing.T) { // P7.1
	of(t, msg.Msg{Htype: 1, Hlen: 6, Chaddr: []byte{2, 0, 0, 0, 0, 7, 0, 0, 0, 0, 0, 0, 0, 0, 0, 0}}, "h\x01\x02\x00\x00\x00\x00\x07", api.OK)
	for htype := range 256 {
		for hlen := range 17 {
			m := plain(hlen)
			m.Htype, m.Chaddr = htype, someBytes(16)
			if hlen == 0 {
				of(t, m, "", api.ErrNone)
			} else {
				of(t, m, "h"+string([]byte{byte(htype)})+string(someBytes(16)[:hlen]), api.OK)
			}
		}
	}
	for _, x := range edgeBytes {
		m := plain(16)
		m.Chaddr = bytes.Repeat([]byte{x}, 16)
		of(t, m, "h\x06"+strings.Repeat(string([]byte{x}), 16), api.OK)
	}
	of(t, msg.Msg{Chaddr: make([]byte, 16)}, "", api.ErrNone)
	of(t, msg.Msg{Hlen: 1, Chaddr: make([]byte, 16)}, "h\x00\x00", api.OK)
}

func TestOfWrong(t *testing.T) { // P7.1: ErrArg, ahead of ErrNone and ErrFull
	for i, m := range wrongMessages() {
		if k, e := Of(m); k != "" || e != api.ErrArg {
			t.Errorf("Of wrong message %d, Hlen %d, %d options: %q, %d", i, m.Hlen, len(m.Opts), k, e)
		}
	}
}

func TestOfIsRight(t *testing.T) { // P7.1: a message's key is valid
	for _, l := range append(otherOptions(), options([]byte("ab")), options(someBytes(255)), options(someBytes(256))) {
		for _, m := range headers(l...) {
			if k, e := Of(m); Right(k) != (e == api.OK) {
				t.Errorf("Of %v: %q, %d, and Right of it %v", m, k, e, Right(k))
			}
		}
	}
}

func TestText(t *testing.T) { // P7.2
	for _, c := range [][2]string{
		{"h\x01\x02\x00\x00\x00\x00\x07", "h-01020000000007"}, {"iab", "i-6162"}, {"i\x00\xff", "i-00ff"}, {"i--", "i-2d2d"},
		{"h\x7f\x80\x2d", "h-7f802d"}, {"i\x0a\xbc\xde\xf9", "i-0abcdef9"}, {"ié", "i-c3a9"}, {"hih", "h-6968"},
	} {
		if s, e := Text(c[0]); s != c[1] || e != api.OK {
			t.Errorf("Text(%q): %s, %d, not %s", c[0], s, e, c[1])
		}
	}
	for x := range 256 {
		k := "i" + string([]byte{byte(x), 0, byte(x)})
		two := hex.EncodeToString([]byte{byte(x)})
		if s, e := Text(k); s != "i-"+two+"00"+two || e != api.OK {
			t.Errorf("Text(%q): %s, %d", k, s, e)
		}
	}
	for _, k := range someKeys() {
		if s, e := Text(k); s != k[:1]+"-"+hex.EncodeToString([]byte(k[1:])) || e != api.OK {
			t.Errorf("Text(%q): %s, %d", k, s, e)
		}
	}
}

func TestTextWrong(t *testing.T) { // P7.2
	for _, k := range wrongKeys() {
		if s, e := Text(k); s != "" || e != api.ErrArg {
			t.Errorf("Text of %d bytes, %q: %.30s, %d", len(k), k[:min(len(k), 30)], s, e)
		}
	}
}

func TestParse(t *testing.T) { // P7.2
	parses(t, "h-01020000000007", "h\x01\x02\x00\x00\x00\x00\x07", api.OK)
	parses(t, "i-6162", "iab", api.OK)
	parses(t, "i-2d2d", "i--", api.OK)
	parses(t, "i-0123456789abcdef", "i\x01\x23\x45\x67\x89\xab\xcd\xef", api.OK)
	parses(t, "h-fedcba9876543210", "h\xfe\xdc\xba\x98\x76\x54\x32\x10", api.OK)
	for _, k := range someKeys() {
		parses(t, k[:1]+"-"+hex.EncodeToString([]byte(k[1:])), k, api.OK)
	}
}

func TestParseLengths(t *testing.T) { // P7.2: as many digits as a valid key's text has
	for letter := range 256 {
		for n := range 1300 {
			s := string([]byte{byte(letter)}) + "-" + strings.Repeat("7", n)
			if n%2 == 0 && n >= 4 && (letter == 'i' && n <= 510 || letter == 'h' && n <= 34) {
				parses(t, s, s[:1]+strings.Repeat("\x77", n/2), api.OK)
			} else {
				parses(t, s, "", api.ErrForm)
			}
		}
	}
	for _, n := range []int{1 << 16, 1<<16 + 4, 1 << 17, 1<<17 + 4, 1 << 20} {
		parses(t, "i-"+strings.Repeat("0", n), "", api.ErrForm)
		parses(t, "h-"+strings.Repeat("0", n), "", api.ErrForm)
	}
}

func TestParseDigits(t *testing.T) { // P7.2: each byte at each place of a text
	for _, s := range []string{"i-0a9f", "h-0a9f", "h-000102030405"} {
		for i := range s {
			for x := range 256 {
				b := []byte(s)
				b[i] = byte(x)
				digit := x >= '0' && x <= '9' || x >= 'a' && x <= 'f'
				if i == 0 && (x == 'i' || x == 'h') || i == 1 && x == '-' || i > 1 && digit {
					rest, _ := hex.DecodeString(string(b[2:]))
					parses(t, string(b), string(b[:1])+string(rest), api.OK)
				} else {
					parses(t, string(b), "", api.ErrForm)
				}
			}
		}
	}
}

func TestParseWrong(t *testing.T) { // P7.2
	texts := []string{
		"", "i", "h", "-", "--", "i-", "h-", "0102", "-0102", "x-0102", "I-0102", "H-0102", "\x00-0102", "\xff-0102", "é-0102", // no letter, no digit
		"i-0", "i-01", "i-010", "h-0", "h-01", "h-010", "i-01020", // too few, and odd
		"i0102", "h0102", "i 0102", "i_0102", "i:0102", "i--0102", "i-0102-", "i-01-02", "i-0-102", "ii-0102", "i\u20110102", "i\u22120102", // the hyphen
		"i-0A0b", "i-0a0B", "i-A00b", "i-0F00", "i-FFFF", "i-0g00", "i-g000", "i-000g", "i-zzzz", "i-0x01", "i-+102", "i-01+2", "i- 102", "i-01:02", "i-0/00", "i-00`0", "i-0@00",
		"i-0102 ", " i-0102", "i-0102\n", "i-0102\x00", "i-0102\x00\x00", "i-0102zz", "i-0102, ", "i-0102i-0102", "h-0102h-0304", "i-01é", "i-é01", "i-٠١٢٣", "i-01\xff\xff", "i-０１", "iab", "hab",
	}
	for _, s := range texts {
		parses(t, s, "", api.ErrForm)
	}
	for _, k := range someKeys() {
		s := k[:1] + "-" + hex.EncodeToString([]byte(k[1:]))
		for _, wrong := range []string{s + "0", s + " ", s + "-", s + "g0", s[:len(s)-1], s[1:], s[:1] + s[2:], s[:2] + "-" + s[2:], s[:1] + "-" + s[1:]} {
			parses(t, wrong, "", api.ErrForm)
		}
		if upper := s[:1] + strings.ToUpper(s[1:]); upper != s {
			parses(t, upper, "", api.ErrForm)
		}
	}
	for _, k := range wrongKeys() {
		if len(k) > 0 {
			parses(t, k[:1]+"-"+hex.EncodeToString([]byte(k[1:])), "", api.ErrForm)
		}
	}
}

func TestInverse(t *testing.T) { // P7.3
	for _, k := range someKeys() {
		s, e := Text(k)
		if e != api.OK {
			t.Fatalf("Text(%q): %d", k, e)
		}
		if p, e := Parse(s); p != k || e != api.OK {
			t.Errorf("Parse(Text(%q)): %q, %d", k, p, e)
		}
	}
	r := rand.New(rand.NewSource(73))
	whole := 0
	for range 40000 {
		b := []byte("ih-0af")
		s := "ih"[r.Intn(2):][:1] + "-"
		for range r.Intn(9) {
			s += string(b[r.Intn(3)+3:][:1])
		}
		if r.Intn(3) == 0 {
			s += string(b[r.Intn(6):][:1])
		}
		k, e := Parse(s)
		if e != api.OK {
			continue
		}
		whole++
		if text, e := Text(k); text != s || e != api.OK || !Right(k) {
			t.Fatalf("Text(Parse(%q)): %q, %d", s, text, e)
		}
	}
	if whole < 5000 {
		t.Errorf("too few texts of keys: %d", whole)
	}
}

func TestClientAlone(t *testing.T) { // P7.4: with such an option the header has no effect, nor have other options
	for _, n := range []int{2, 3, 17, 254, 255} {
		client := api.Opt{Code: 61, Data: someBytes(n)}
		for _, l := range [][]api.Opt{{client}, {{Code: 53, Data: []byte{1}}, client, {Code: 12}}, append(manyOptions(62, api.MaxOpts-1, 3), client)} {
			for _, m := range headers(l...) {
				of(t, m, "i"+string(client.Data), api.OK)
			}
		}
	}
	for _, m := range headers(options(someBytes(256))...) {
		of(t, m, "", api.ErrFull)
	}
}

func TestHeaderAlone(t *testing.T) { // P7.4: without such an option the options have no effect, nor have the other parts of the header
	for _, m := range headers() {
		want, wantE := handOf(m)
		for _, l := range otherOptions() {
			m.Opts = l
			of(t, m, want, wantE)
		}
		m.Op, m.Hops, m.Xid, m.Secs, m.Flags, m.Ci, m.Yi, m.Si, m.Gi = 77, 78, 79, 80, 81, 82, 83, 84, 85
		m.Chaddr = append(slices.Clone(m.Chaddr[:m.Hlen]), bytes.Repeat([]byte{91}, 16-m.Hlen)...) // what stands behind Hlen bytes
		of(t, m, want, wantE)
	}
}

// randomMessage answers a message that is valid or nearly so.
func randomMessage(r *rand.Rand) msg.Msg {
	m := plain(r.Intn(3) * r.Intn(9))
	m.Htype = r.Intn(256)
	r.Read(m.Chaddr)
	for range r.Intn(5) {
		data := make([]byte, []int{0, 1, 2, 3, 255, 256, r.Intn(300), r.Intn(601)}[r.Intn(8)])
		r.Read(data)
		m.Opts = append(m.Opts, api.Opt{Code: []int{61, 60, 62, r.Intn(256)}[r.Intn(4)], Data: data})
	}
	switch r.Intn(12) {
	case 0:
		m.Hlen = r.Intn(40) - 10
	case 1:
		m.Chaddr = m.Chaddr[:r.Intn(17)]
	case 2:
		m.Xid = int(r.Uint64())
	}
	return m
}

func TestAnyMessage(t *testing.T) { // P7.1, P0: no call panics, and errors come with zero values
	r := rand.New(rand.NewSource(71))
	seen := map[api.Errno]int{}
	for range 30000 {
		m := randomMessage(r)
		want, wantE := "", api.ErrArg
		if msg.Right(m) {
			want, wantE = handOf(m)
		}
		k, e := Of(m)
		seen[e]++
		if k != want || e != wantE {
			t.Fatalf("Of %v: %q, %d, not %q, %d", m, k, e, want, wantE)
		}
		if again, e := Of(m); again != k || e != wantE { // R4
			t.Fatalf("Of %v: %q, and then %q", m, k, again)
		}
	}
	for _, e := range []api.Errno{api.OK, api.ErrArg, api.ErrNone, api.ErrFull} {
		if seen[e] < 500 {
			t.Errorf("too few with the error %d: %v", e, seen)
		}
	}
}

func TestAnyString(t *testing.T) { // P7.1, P7.2, P0: no call panics, and errors come with zero values
	r := rand.New(rand.NewSource(72))
	seen := map[bool]int{}
	for range 30000 {
		b := make([]byte, r.Intn(24))
		r.Read(b)
		s := []string{"", "i", "h", "i-", "h-"}[r.Intn(5)] + string(b)
		if r.Intn(3) == 0 {
			s = []string{"i-", "h-", "-", "i", "h-0"}[r.Intn(5)] + hex.EncodeToString(b)
		}
		right := len(s) >= 3 && (s[0] == 'i' && len(s) <= 256 || s[0] == 'h' && len(s) <= 18)
		text, e := Text(s)
		seen[right]++
		if Right(s) != right || (e == api.OK) != right || !right && (text != "" || e != api.ErrArg) {
			t.Fatalf("Right and Text of %q: %v, %q, %d", s, Right(s), text, e)
		}
		k, e := Parse(s)
		if e == api.OK && s != k[:1]+"-"+hex.EncodeToString([]byte(k[1:])) || e != api.OK && (k != "" || e != api.ErrForm) {
			t.Fatalf("Parse of %q: %q, %d", s, k, e)
		}
	}
	if seen[true] < 500 || seen[false] < 500 {
		t.Errorf("too few of one kind: %v", seen)
	}
}

// roomy answers a copy of bytes with spare capacity that is filled.
func roomy(b []byte) []byte {
	c := append(make([]byte, 0, len(b)+50), b...)
	for i := range c[len(c):cap(c)] {
		c[:cap(c)][len(b)+i] = 77
	}
	return c
}

// dump answers all bytes of a message and of the spare capacity behind them.
func dump(m msg.Msg) []byte {
	b := bytes.Clone(m.Chaddr[:cap(m.Chaddr)])
	for _, o := range m.Opts[:cap(m.Opts)] {
		b = append(append(b, byte(o.Code)), o.Data[:cap(o.Data)]...)
	}
	return b
}

func TestMemory(t *testing.T) { // P0, R3: a message stays as it is, and a key is memory of its own
	for _, n := range []int{0, 1, 2, 255, 256} {
		for _, hlen := range []int{0, 1, 6, 16, 17} {
			m := plain(hlen)
			m.Chaddr = roomy(m.Chaddr)
			m.Opts = append(make([]api.Opt, 0, 5), api.Opt{Code: 61, Data: roomy(someBytes(n))}, api.Opt{Code: 53, Data: roomy([]byte{1})})
			before := dump(m)
			k, _ := Of(m)
			if !bytes.Equal(dump(m), before) {
				t.Errorf("Of changes a message with %d bytes of Client and Hlen %d", n, hlen)
			}
			kept := strings.Clone(k)
			clear(m.Chaddr)
			clear(m.Opts[0].Data)
			if k != kept {
				t.Errorf("the key of %d bytes of Client and Hlen %d shares the message's memory", n, hlen)
			}
		}
	}
}
