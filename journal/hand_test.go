package journal

import (
	"bytes"
	"encoding/binary"
	"encoding/hex"
	"fmt"
	"hash/crc32"
	"math/rand"
	"slices"
	"strings"
	"testing"

	"boarder/api"
	"boarder/disk"
)

// Leases that are valid: the shortest and the longest ones among them.
var (
	leaseA    = api.Lease{Addr: 1, State: api.Bound, Expiry: 258, Key: "i01"}
	leaseB    = api.Lease{Addr: 2, State: api.Released, Expiry: 9, Key: "hab"}
	leaseC    = api.Lease{Addr: api.MaxAddr, State: api.Declined, Expiry: api.MaxTime, Key: "h\x01\x02\x00\x00\x00\x00\x07"}
	shortest  = api.Lease{State: api.Bound, Key: "i\x00\x00"}
	longest   = api.Lease{Addr: 167772167, State: api.Bound, Expiry: 1 << 40, Key: "i" + strings.Repeat("long!", 51)}
	someLease = []api.Lease{leaseA, leaseB, leaseC, shortest, longest}
)

// frameA is the frame of leaseA.
const frameA = "000fd30fb715" + "000000010100000000000102693031"

// unhex answers bytes by their digits.
func unhex(s string) []byte {
	b, err := hex.DecodeString(s)
	if err != nil {
		panic(err)
	}
	return b
}

// handFrame answers the frame of bytes, by the words of chapter 2.
func handFrame(b []byte) []byte {
	head := binary.BigEndian.AppendUint16(nil, uint16(len(b)))
	return append(binary.BigEndian.AppendUint32(head, crc32.ChecksumIEEE(b)), b...)
}

// handLease answers the bytes of a valid lease, by the words of chapter 9.
func handLease(l api.Lease) []byte {
	return unhex(fmt.Sprintf("%08x%02x%014x%x", l.Addr, l.State, l.Expiry, l.Key))
}

// frames answers a journal with these leases.
func frames(l ...api.Lease) []byte {
	var b []byte
	for _, x := range l {
		b = append(b, handFrame(handLease(x))...)
	}
	return b
}

// handHolds: are these the bytes of this valid lease, by the words of chapter 9? If so, it answers the lease.
func handHolds(b []byte) (api.Lease, bool) {
	if len(b) < 15 || len(b) > 12+256 || b[12] != 'i' && (b[12] != 'h' || len(b) > 12+18) {
		return api.Lease{}, false
	}
	l := api.Lease{Addr: int(binary.BigEndian.Uint32(b)), State: int(b[4]), Expiry: int(binary.BigEndian.Uint64(b[4:]) % (1 << 56)), Key: string(b[12:])}
	return l, l.State >= 1 && l.State <= 3 && l.Expiry <= 1<<50
}

// handRead answers what P10.2 says of the bytes of a journal.
func handRead(b []byte) (l []api.Lease, n int, e api.Errno) {
	for n < len(b) {
		rest := b[n:]
		if len(rest) < 6 {
			return l, n, api.ErrMore
		}
		size := int(binary.BigEndian.Uint16(rest))
		if size <= 2000 && len(rest) < 6+size {
			return l, n, api.ErrMore
		}
		if size > 2000 || crc32.ChecksumIEEE(rest[6:6+size]) != binary.BigEndian.Uint32(rest[2:]) {
			return nil, 0, api.ErrForm
		}
		x, ok := handHolds(rest[6 : 6+size])
		if !ok {
			return nil, 0, api.ErrForm
		}
		l, n = append(l, x), n+6+size
	}
	return l, n, api.OK
}

// file answers a file, all of it safe or none of it.
func file(b []byte, safe bool) disk.File {
	f := disk.File{Data: b}
	if safe {
		f.Safe = len(b)
	}
	return f
}

// names answers entries: "a0 j1" are the names a and j, of the files 0 and 1.
func names(s string) []disk.Entry {
	var l []disk.Entry
	for _, w := range strings.Fields(s) {
		l = append(l, disk.Entry{Name: w[:len(w)-1], File: int(w[len(w)-1] - '0')})
	}
	return l
}

// text answers a file that is no journal, and of which only a part is safe.
func text(s string) disk.File {
	return disk.File{Data: []byte(s), Safe: len(s) / 2}
}

// places answers disks with a journal of these bytes among other files, and with names that Kept lacks or has for another file.
func places(b []byte) []disk.Disk {
	j, unsafe := file(b, true), file(b, false)
	old := file(frames(leaseC), true)
	return []disk.Disk{
		{Files: []disk.File{j}, Now: names("j0"), Kept: names("j0")},
		{Files: []disk.File{unsafe}, Now: names("j0"), Kept: names("j0")},
		{Files: []disk.File{j}, Now: names("j0")},
		{Files: []disk.File{unsafe}, Now: names("j0")},
		{Files: []disk.File{unsafe, old}, Now: names("j0"), Kept: names("j1")},                                                                  // for another file
		{Files: []disk.File{j, old}, Now: names("j0"), Kept: names("j1 k0")},                                                                    // k renamed to j
		{Files: []disk.File{j}, Now: names("j0"), Kept: names("k0")},                                                                            // the same, without an older one
		{Files: []disk.File{unsafe, text("draft")}, Now: names("j0 k1"), Kept: names("j0")},                                                     // k in Now
		{Files: []disk.File{unsafe, text("draft")}, Now: names("j0 k1"), Kept: names("j0 k1")},                                                  // k in both
		{Files: []disk.File{j, text("draft")}, Now: names("j0"), Kept: names("j0 k1")},                                                          // k in Kept
		{Files: []disk.File{j, text("draft")}, Now: names("j0 k1"), Kept: names("j1 k0")},                                                       // swapped
		{Files: []disk.File{text("J"), text("ahead"), unsafe, text("jj")}, Now: names("J0 a1 j2 jj3"), Kept: names("a1 j2 z0")},                 // among others
		{Files: []disk.File{text("ahead"), j, text("draft"), text("z"), old}, Now: names("a0 j1 k2 z3"), Kept: names("a3 i4 j0 k1 l2")},         // all of them swapped
		{Files: []disk.File{text("k\x00"), j, text("kk")}, Now: names("K0 j1 kk2"), Kept: names("K0 j1 kk2")},                                   // names like those
		{Files: []disk.File{unsafe, text("draft"), text("behind")}, Now: names("j0 k1 kk2"), Kept: names("k1 kk2")},                             // Kept lacks it
		{Files: append([]disk.File{j}, many(19)...), Now: append(names("j0"), numbered(19)...), Kept: append(names("j0"), numbered(19)...)},     // as many files as may be
		{Files: append([]disk.File{unsafe}, many(19)...), Now: append(names("j0"), numbered(9)...), Kept: append(names("j0"), numbered(19)...)}, // some of them in Kept alone
	}
}

// many answers files for the names of numbered.
func many(n int) []disk.File {
	var l []disk.File
	for i := range n {
		l = append(l, text(fmt.Sprint("text ", i)))
	}
	return l
}

// numbered answers n names behind j, for the files from 1 on.
func numbered(n int) []disk.Entry {
	var l []disk.Entry
	for i := range n {
		l = append(l, disk.Entry{Name: fmt.Sprintf("m%02d", i), File: 1 + i})
	}
	return l
}

// bare answers valid disks that have no journal now.
func bare() []disk.Disk {
	old := file(frames(leaseA, leaseB), true)
	return []disk.Disk{
		{},
		{Files: []disk.File{}, Now: []disk.Entry{}, Kept: []disk.Entry{}},
		{Files: []disk.File{old}, Kept: names("j0")},
		{Files: []disk.File{old}, Now: names("k0")},
		{Files: []disk.File{old}, Now: names("k0"), Kept: names("j0")},
		{Files: []disk.File{text("a"), old, text("draft")}, Now: names("a0"), Kept: names("j1 k2")},
		{Files: []disk.File{text("a"), text("draft"), text("z")}, Now: names("a0 k1 z2"), Kept: names("a0")},
		{Files: []disk.File{old, text("J")}, Now: names("J0"), Kept: names("J0 jj1")},
	}
}

// wrongDisks answers disks that are not valid, with a journal that could be read.
func wrongDisks() []disk.Disk {
	j := file(frames(leaseA, leaseB), true)
	torn := file(append(frames(leaseA), 0, 9), true)
	corrupt := file(append(frames(leaseA), 255, 255, 0, 0, 0, 0), true)
	var ds []disk.Disk
	for _, f := range []disk.File{j, torn, corrupt} {
		ds = append(ds,
			disk.Disk{Files: []disk.File{f, text("lost")}, Now: names("j0"), Kept: names("j0")},
			disk.Disk{Files: []disk.File{text("lost"), f}, Now: names("j1"), Kept: names("j1")},
			disk.Disk{Files: []disk.File{f}, Now: names("j0 k0"), Kept: names("j0")},
			disk.Disk{Files: []disk.File{f}, Now: names("j0 j0"), Kept: names("j0")},
			disk.Disk{Files: []disk.File{f, text("k")}, Now: names("k1 j0"), Kept: names("j0")},
			disk.Disk{Files: []disk.File{f}, Now: names("j0"), Kept: names("j1")},
			disk.Disk{Files: []disk.File{f}, Now: names("j0"), Kept: []disk.Entry{{Name: "j", File: -1}}},
			disk.Disk{Files: []disk.File{f}, Now: names("j0 k7"), Kept: names("j0")},
			disk.Disk{Files: []disk.File{f}, Now: append(names("j0"), disk.Entry{Name: strings.Repeat("z", 17), File: 0})},
			disk.Disk{Files: []disk.File{{Data: f.Data, Safe: -1}}, Now: names("j0"), Kept: names("j0")},
			disk.Disk{Files: []disk.File{{Data: f.Data, Safe: len(f.Data) + 1}}, Now: names("j0"), Kept: names("j0")},
			disk.Disk{Files: append([]disk.File{f}, many(20)...), Now: append(names("j0"), numbered(20)...), Kept: append(names("j0"), numbered(20)...)},
			disk.Disk{Files: []disk.File{f, {Data: make([]byte, api.MaxBytes+1)}}, Now: names("j0 k1"), Kept: names("j0 k1")},
		)
	}
	return append(ds,
		disk.Disk{Now: names("j0")}, disk.Disk{Kept: names("j0")}, disk.Disk{Files: make([]disk.File, 300)},
		disk.Disk{Files: []disk.File{{Data: bytes.Repeat(frames(leaseA), 1000)}}, Now: names("j0"), Kept: names("j0")})
}

// same: are two disks alike? Nil and empty lists are.
func same(d, c disk.Disk) bool {
	return slices.EqualFunc(d.Files, c.Files, func(f, g disk.File) bool { return bytes.Equal(f.Data, g.Data) && f.Safe == g.Safe }) &&
		slices.Equal(d.Now, c.Now) && slices.Equal(d.Kept, c.Kept)
}

// tell answers a disk in a few words.
func tell(d disk.Disk) string {
	s := fmt.Sprint("Now ", d.Now, ", Kept ", d.Kept, ":")
	for _, f := range d.Files[:min(len(d.Files), 5)] {
		s += fmt.Sprintf(" %d bytes %x.. safe %d;", len(f.Data), f.Data[:min(len(f.Data), 12)], f.Safe)
	}
	return s
}

// reads: does Read answer just this?
func reads(t *testing.T, d disk.Disk, l []api.Lease, n int, e api.Errno) {
	t.Helper()
	if x, m, f := Read(d); !slices.Equal(x, l) || m != n || f != e {
		t.Errorf("Read of %s: %d leases, %d, error %d, not %d, %d, error %d", tell(d), len(x), m, f, len(l), n, e)
	}
}

// spoilt is a journal with a fault, and what Read says of it.
type spoilt struct {
	b []byte
	l []api.Lease
	n int
	e api.Errno
}

// strangers answers byte strings that are no leases, some of them with fewer bytes than one has.
func strangers() [][]byte {
	short := handLease(leaseA)
	late := bytes.Clone(short)
	late[5] = 4 // 2^50 is 04 and six zero bytes: one more is too late
	none := bytes.Clone(short)
	none[4] = 0
	other := bytes.Clone(short)
	other[4] = 4
	wild := bytes.Clone(short)
	wild[12] = 'j'
	return [][]byte{nil, {7}, short[:11], short[:12], short[:13], short[:14], late, none, other, wild, make([]byte, 15), make([]byte, 2000),
		append(bytes.Clone(short), make([]byte, 254)...), append(handLease(leaseC), make([]byte, 11)...)}
}

// wrongFrames answers frames that are wrong, whatever follows them: a sum that is another one, or a length that may not be.
func wrongFrames() [][]byte {
	var l [][]byte
	for i := 2; i < 21; i++ { // each byte of the sum, and of what it is about
		b := frames(leaseA)
		b[i] ^= 1 << (i % 8)
		l = append(l, b)
	}
	for _, size := range []int{0, 1, 14, 2001, 2002, 1<<15 - 1, 1 << 15, 1<<16 - 1} { // another length than the sum's, or one that is too great
		b := frames(leaseA)
		binary.BigEndian.PutUint16(b, uint16(size))
		l = append(l, b)
	}
	return append(l, []byte{7, 209, 0, 0, 0, 0}, []byte{255, 255, 255, 255, 255, 255}, []byte{0, 1, 1, 1, 1, 1, 1}, []byte{0, 0, 0, 0, 0, 1}, handFrame(make([]byte, 2001)))
}

// tails answers bytes of frames that end too soon.
func tails() [][]byte {
	l := [][]byte{{0}, {255}, {0, 0}, {255, 255}, {0, 9, 1}, {255, 255, 255, 255, 255}, {0, 1, 9, 9, 9, 9}, {7, 208, 0, 0, 0, 0}, handFrame(make([]byte, 2000))[:2005]}
	for _, x := range []api.Lease{leaseA, leaseC} {
		b := frames(x)
		for n := 1; n < len(b); n++ {
			l = append(l, b[:n])
		}
	}
	long := frames(longest)
	greater := frames(leaseA) // a length that is too great for what follows it
	greater[1] = 16
	return append(l, long[:1], long[:6], long[:255], long[:256], long[:len(long)-1], handFrame(nil)[:5], greater)
}

// wrongJournals answers journals that are torn, corrupt, or have a frame that holds no lease.
func wrongJournals() []spoilt {
	var all []spoilt
	bad := wrongFrames()
	for _, s := range strangers() {
		bad = append(bad, handFrame(s))
	}
	for _, ahead := range [][]api.Lease{nil, {leaseA}, {leaseA, leaseB, leaseA, longest}} {
		b := frames(ahead...)
		for _, x := range tails() {
			all = append(all, spoilt{slices.Concat(b, x), ahead, len(b), api.ErrMore})
		}
		for _, x := range bad {
			for _, behind := range [][]byte{nil, frames(leaseB), frames(leaseC, shortest), {0}, {255, 255, 255, 255, 255, 255}, handFrame(nil), handFrame(make([]byte, 15)), frames(leaseA)[:20]} {
				all = append(all, spoilt{slices.Concat(b, x, behind), nil, 0, api.ErrForm})
			}
		}
	}
	return all
}

// someChange answers a change with one of a few names and few bytes, which may have an error.
func someChange(r *rand.Rand) Change {
	pick := []string{"j", "j", "k", "k", "a", "b", "", strings.Repeat("z", 16), strings.Repeat("z", 17)}
	c := Change{Kind: 1 + r.Intn(5), Name: pick[r.Intn(len(pick))], To: pick[r.Intn(len(pick))], B: make([]byte, r.Intn(9))}
	switch r.Intn(20) {
	case 0:
		c.Kind = r.Intn(20) - 10
	case 1:
		c.B = make([]byte, 7000)
	case 2, 3, 4, 5, 6, 7:
		c.Kind = 1
	}
	r.Read(c.B)
	return c
}
