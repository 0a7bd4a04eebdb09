package msg

import (
	"errors"
	"testing"

	"boarder/api"
)

func TestNumberOf(t *testing.T) { // P4.1, P4.2: the number of a cause, however deep it is wrapped
	for _, c := range []struct {
		err  error
		want api.Errno
	}{
		{nil, api.OK}, {errInvalid, api.ErrArg}, {errShort, api.ErrMore}, {errLong, api.ErrFull}, {errForm, api.ErrForm},
		{below{api.ErrForm}, api.ErrForm}, {below{api.ErrFull}, api.ErrFull}, {below{api.ErrArg}, api.ErrArg}, {below{api.ErrSum}, api.ErrSum},
	} {
		if n := numberOf(c.err); n != c.want {
			t.Errorf("numberOf(%v): %d, not %d", c.err, n, c.want)
		}
		if c.err == nil {
			continue
		}
		err := c.err
		for range 3 {
			err = fault{"part", err}
			if n := numberOf(err); n != c.want || !errors.Is(err, c.err) {
				t.Errorf("numberOf(%v): %d, not %d", err, n, c.want)
			}
		}
	}
}

func TestCauses(t *testing.T) { // P4.2: each failure is wrapped with the part that it occurred in
	full := optionBytes(manyOptions(60, 61, 0)...)
	many := optionBytes(manyOptions(60, 59, 0)...)
	wrongCookie, wrongHlen := packet(nil, nil, nil), packet(nil, nil, nil)
	wrongCookie[236], wrongHlen[2] = 0, 17
	for _, c := range []struct {
		b     []byte
		cause error
		text  string
	}{
		{nil, errShort, "header: too few bytes"},
		{make([]byte, 1501), errLong, "packet: too many bytes"},
		{wrongCookie, errForm, "cookie: bytes that may not stand there"},
		{wrongHlen, errForm, "hardware length: bytes that may not stand there"},
		{packet(full, nil, nil), below{api.ErrFull}, "options: error 3 of a layer below"},
		{packet([]byte{53}, nil, nil), below{api.ErrForm}, "options: error 2 of a layer below"},
		{packet(overloads(4), nil, nil), errForm, "options: overload: bytes that may not stand there"},
		{packet(overloads(1), full, nil), below{api.ErrFull}, "file field: error 3 of a layer below"},
		{packet(overloads(3), nil, []byte{52, 0}), errForm, "name field: overload: bytes that may not stand there"},
		{packet(overloads(2, many...), nil, []byte{200, 0, 201, 0}), below{api.ErrFull}, "name field: joined options: error 3 of a layer below"},
	} {
		m, err := decode(c.b)
		if !empty(m) || !errors.Is(err, c.cause) || err.Error() != c.text {
			t.Errorf("decode of %d bytes: %v, %v, not %s", len(c.b), m, err, c.text)
		}
	}
	if b, err := encode(Msg{}); b != nil || !errors.Is(err, errInvalid) || err.Error() != "message: the message is not valid" {
		t.Errorf("encode of a wrong message: %x, %v", b, err)
	}
	if b, err := encode(plain(manyOptions(60, 60, 600)...)); b != nil || !errors.Is(err, errLong) || err.Error() != "encoding: too many bytes" {
		t.Errorf("encode of a long message: %x, %v", b, err)
	}
}
