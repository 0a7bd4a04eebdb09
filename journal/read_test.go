package journal

import (
	"bytes"
	"encoding/hex"
	"fmt"
	"math/rand"
	"slices"
	"testing"

	"boarder/api"
	"boarder/disk"
)

func TestFixtures(t *testing.T) { // what the other tests lean on
	if hex.EncodeToString(frames(leaseA)) != frameA {
		t.Errorf("the frame of leaseA by hand: %x", frames(leaseA))
	}
	for i, d := range slices.Concat(places(nil), places(frames(leaseA)), bare()) {
		if !disk.Right(d) {
			t.Errorf("disk %d is not valid: %s", i, tell(d))
		}
	}
	for i, w := range wrongJournals() {
		if l, n, e := handRead(w.b); !slices.Equal(l, w.l) || n != w.n || e != w.e {
			t.Errorf("wrong journal %d, %x: %d leases, %d, error %d, not %d, %d, error %d", i, w.b, len(l), n, e, len(w.l), w.n, w.e)
		}
	}
}

func TestReadNothing(t *testing.T) { // P10.2: no journal, and an empty one
	for _, d := range append(bare(), places(nil)...) {
		reads(t, d, nil, 0, api.OK)
	}
}

func TestReadLeases(t *testing.T) { // P10.2
	one := unhex(frameA)
	reads(t, places(one)[0], []api.Lease{leaseA}, 21, api.OK)
	reads(t, places(slices.Concat(one, one))[0], []api.Lease{leaseA, leaseA}, 42, api.OK)
	for n := range len(someLease) + 1 {
		for _, l := range [][]api.Lease{someLease[:n], someLease[n:], slices.Concat(someLease[:n], someLease)} {
			for _, d := range places(frames(l...)) {
				reads(t, d, l, len(frames(l...)), api.OK)
			}
		}
	}
}

func TestReadFull(t *testing.T) { // P10.2: a journal of as many bytes as a file may have
	long := frames(longest)
	l := slices.Repeat([]api.Lease{longest}, 72)
	b := bytes.Repeat(long, 72)
	for len(b)+21 <= api.MaxBytes {
		l, b = append(l, leaseA), append(b, unhex(frameA)...)
	}
	reads(t, places(b)[0], l, len(b), api.OK)
	reads(t, places(append(bytes.Clone(b), long[:api.MaxBytes-len(b)]...))[0], l, len(b), api.ErrMore)
}

func TestReadCut(t *testing.T) { // P10.2: a journal that ends anywhere
	for _, l := range [][]api.Lease{{leaseA}, {leaseA, leaseB, leaseC}, {shortest, longest}} {
		b := frames(l...)
		for n := range len(b) + 1 {
			whole := 0
			for whole < len(l) && len(frames(l[:whole+1]...)) <= n {
				whole++
			}
			want, e := len(frames(l[:whole]...)), api.ErrMore
			if want == n {
				e = api.OK
			}
			reads(t, places(b[:n])[0], l[:whole], want, e)
		}
	}
}

func TestReadWrong(t *testing.T) { // P10.2: torn, corrupt, and frames that hold no lease, each of them behind whole frames and ahead of others
	for _, w := range wrongJournals() {
		for _, i := range []int{0, 11} {
			reads(t, places(w.b)[i], w.l, w.n, w.e)
		}
	}
}

func TestReadWords(t *testing.T) { // P10.2: written out by hand
	// Neither no bytes nor a single one are a lease.
	whole, short, odd := frameA, "000000000000", "0001d202ef8d00"
	for _, c := range []struct {
		digits string
		leases int
		n      int
		e      api.Errno
	}{
		{whole, 1, 21, api.OK},
		{whole + "00", 1, 21, api.ErrMore},
		{whole + "0000", 1, 21, api.ErrMore},
		{whole + "ffff000000", 1, 21, api.ErrMore},
		{whole + "07d000000000", 1, 21, api.ErrMore}, // a length of 2000
		{whole + "07d100000000", 0, 0, api.ErrForm},  // a length of 2001
		{whole + "000000000001", 0, 0, api.ErrForm},
		{whole + short, 0, 0, api.ErrForm},
		{short + whole, 0, 0, api.ErrForm},
		{odd + "ffff00000000", 0, 0, api.ErrForm},
		{"ffff00000000" + odd, 0, 0, api.ErrForm},
		{odd + "00", 0, 0, api.ErrForm},
		{short, 0, 0, api.ErrForm},
		{short[:10], 0, 0, api.ErrMore},
		{"00" + whole, 0, 0, api.ErrForm}, // a length of no bytes, and the sum of others
		{"01" + whole, 0, 0, api.ErrMore}, // a length of 256 bytes
	} {
		b := unhex(c.digits)
		reads(t, places(b)[0], slices.Repeat([]api.Lease{leaseA}, c.leases), c.n, c.e)
	}
}

func TestReadRandom(t *testing.T) { // P10.2, R4
	r := rand.New(rand.NewSource(102))
	seen := map[string]int{}
	parts := slices.Concat(tails(), wrongFrames())
	for _, s := range strangers() {
		parts = append(parts, handFrame(s))
	}
	for range 6000 {
		var b []byte
		for range r.Intn(5) {
			b = append(b, frames(someLease[r.Intn(len(someLease))])...)
			if r.Intn(6) == 0 {
				b = append(b, parts[r.Intn(len(parts))]...)
			}
		}
		if len(b) > 0 && r.Intn(3) == 0 {
			b[r.Intn(len(b))] ^= 1 << r.Intn(8)
		}
		if len(b) > 0 && r.Intn(3) == 0 {
			b = b[:r.Intn(len(b))]
		}
		l, n, e := handRead(b)
		seen[fmt.Sprint("error ", e)]++
		at := r.Intn(17)
		reads(t, places(b)[at], l, n, e)
		reads(t, places(b)[at], l, n, e)
	}
	for _, e := range []string{"error 0", "error 2", "error 4"} {
		if seen[e] < 500 {
			t.Errorf("too few with %s: %v", e, seen)
		}
	}
}

func TestReadAnyBytes(t *testing.T) { // P10.2, P0: no bytes let it panic
	r := rand.New(rand.NewSource(103))
	for range 3000 {
		b := make([]byte, r.Intn(60))
		r.Read(b)
		if len(b) > 0 && r.Intn(2) == 0 {
			b[0] = byte(r.Intn(8)) // or else nearly all lengths would be too great
		}
		l, n, e := handRead(b)
		reads(t, places(b)[0], l, n, e)
	}
	for _, x := range []byte{0, 1, 7, 255} {
		b := bytes.Repeat([]byte{x}, api.MaxBytes)
		l, n, e := handRead(b)
		reads(t, places(b)[0], l, n, e)
	}
}

func TestReadWrongDisk(t *testing.T) { // P10.2, P0
	for _, d := range wrongDisks() {
		reads(t, d, nil, 0, api.OK)
	}
}
