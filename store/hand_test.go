package store

import (
	"bytes"
	"encoding/binary"
	"encoding/hex"
	"fmt"
	"hash/crc32"
	"math"
	"slices"
	"strings"
	"testing"

	"boarder/api"
	"boarder/disk"
	"boarder/journal"
	"boarder/table"
)

// Leases that are valid: the shortest and the longest ones among them, and of some addresses several.
var (
	leaseA    = api.Lease{Addr: 1, State: api.Bound, Expiry: 258, Key: "i01"}
	laterA    = api.Lease{Addr: 1, State: api.Released, Expiry: 3, Key: "i01"}
	leaseB    = api.Lease{Addr: 2, State: api.Released, Expiry: 9, Key: "hab"}
	laterB    = api.Lease{Addr: 2, State: api.Bound, Expiry: 9000, Key: "i\x00\xff\x00"}
	leaseC    = api.Lease{Addr: api.MaxAddr, State: api.Declined, Expiry: api.MaxTime, Key: "h\x01\x02\x00\x00\x00\x00\x07"}
	shortest  = api.Lease{State: api.Bound, Key: "i\x00\x00"}
	longest   = api.Lease{Addr: 167772167, State: api.Bound, Expiry: 1 << 40, Key: "i" + strings.Repeat("long!", 51)}
	someLease = []api.Lease{leaseA, leaseB, leaseC, shortest, longest, laterA, laterB}
)

// frameA is the frame of leaseA.
const frameA = "000fd30fb715" + "000000010100000000000102693031"

// unhex answers bytes by their digits.
func unhex(s string) []byte {
	b, err := hex.DecodeString(s)
	if err != nil {
		panic(err)
	}
	return b
}

// handFrame answers the frame of bytes, by the words of chapter 2.
func handFrame(b []byte) []byte {
	head := binary.BigEndian.AppendUint16(nil, uint16(len(b)))
	return append(binary.BigEndian.AppendUint32(head, crc32.ChecksumIEEE(b)), b...)
}

// frames answers the frames of valid leases, by the words of the chapters 2 and 9.
func frames(l ...api.Lease) []byte {
	var all []byte
	for _, x := range l {
		all = append(all, handFrame(unhex(fmt.Sprintf("%08x%02x%014x%x", x.Addr, x.State, x.Expiry, x.Key)))...)
	}
	return all
}

// at answers a valid lease of an address.
func at(addr, expiry int) api.Lease {
	return api.Lease{Addr: addr, State: api.Bound, Expiry: expiry, Key: "i42"}
}

// row answers n valid leases of as many addresses, in order, from the address 10 on.
func row(n int) []api.Lease {
	l := make([]api.Lease, n)
	for i := range l {
		l[i] = at(10+i, i)
	}
	return l
}

// sized answers a valid lease whose frame has so many bytes: from 21 to 274.
func sized(addr, n int) api.Lease {
	return api.Lease{Addr: addr, State: api.Declined, Expiry: 7, Key: "i" + strings.Repeat("s", n-19)}
}

// filling answers leases of up to three addresses whose frames have so many bytes altogether: at least 274.
func filling(n int) []api.Lease {
	var l []api.Lease
	for n > 0 {
		size := min(n, 274)
		if n > 274 && n < 274+21 {
			size = 200 // so that what is left is enough for a frame
		}
		l, n = append(l, sized(1+len(l)%3, size)), n-size
	}
	return l
}

// wrongLeases answers leases that are not valid.
func wrongLeases() []api.Lease {
	var all []api.Lease
	for _, f := range []func(*api.Lease){
		func(l *api.Lease) { *l = api.Lease{} },
		func(l *api.Lease) { l.Addr = -1 },
		func(l *api.Lease) { l.Addr = api.MaxAddr + 1 },
		func(l *api.Lease) { l.Addr = math.MinInt },
		func(l *api.Lease) { l.Addr = math.MaxInt },
		func(l *api.Lease) { l.State = 0 },
		func(l *api.Lease) { l.State = 4 },
		func(l *api.Lease) { l.State = -1 },
		func(l *api.Lease) { l.State = math.MaxInt },
		func(l *api.Lease) { l.Expiry = -1 },
		func(l *api.Lease) { l.Expiry = api.MaxTime + 1 },
		func(l *api.Lease) { l.Expiry = math.MinInt },
		func(l *api.Lease) { l.Expiry = math.MaxInt },
		func(l *api.Lease) { l.Key = "" },
		func(l *api.Lease) { l.Key = "i1" },
		func(l *api.Lease) { l.Key = "k01" },
		func(l *api.Lease) { l.Key = "h" + strings.Repeat("x", 18) },
		func(l *api.Lease) { l.Key = "i" + strings.Repeat("x", 256) },
		func(l *api.Lease) { l.Key = "i" + strings.Repeat("x", 100000) },
	} {
		l := leaseA
		f(&l)
		all = append(all, l)
	}
	return all
}

// tables answers lists that are tables: empty ones, full ones, and such with the leases of addresses that are first and last.
func tables() [][]api.Lease {
	return [][]api.Lease{nil, {}, {leaseA}, {laterA}, {leaseA, leaseB}, {shortest, leaseB, longest, leaseC}, row(63), row(64), append(row(63), leaseC), append([]api.Lease{leaseA}, row(63)...)}
}

// noTables answers lists that are none.
func noTables() [][]api.Lease {
	all := [][]api.Lease{{leaseB, leaseA}, {leaseA, laterA}, {leaseA, leaseA}, {leaseC, shortest}, row(65), append(row(64), leaseC), append(row(10), row(3)...), slices.Repeat(someLease, 30)}
	for _, l := range wrongLeases() {
		all = append(all, []api.Lease{l}, []api.Lease{shortest, l, leaseC})
	}
	return all
}

// file answers a file, all of it safe or none of it.
func file(b []byte, safe bool) disk.File {
	f := disk.File{Data: b}
	if safe {
		f.Safe = len(b)
	}
	return f
}

// text answers a file that is no journal, and of which only a part is safe.
func text(s string) disk.File {
	return disk.File{Data: []byte(s), Safe: len(s) / 2}
}

// texts answers files for the names of numbered.
func texts(n int) []disk.File {
	var l []disk.File
	for i := range n {
		l = append(l, text(fmt.Sprint("text ", i)))
	}
	return l
}

// names answers entries: "a0 j1" are the names a and j, of the files 0 and 1.
func names(s string) []disk.Entry {
	var l []disk.Entry
	for _, w := range strings.Fields(s) {
		l = append(l, disk.Entry{Name: w[:len(w)-1], File: int(w[len(w)-1] - '0')})
	}
	return l
}

// numbered answers n names behind j and k, for the files of these numbers on.
func numbered(from, n int) []disk.Entry {
	var l []disk.Entry
	for i := range n {
		l = append(l, disk.Entry{Name: fmt.Sprintf("m%02d", i), File: from + i})
	}
	return l
}

// lasting answers a disk with nothing but a journal of these bytes, which outlives any crash.
func lasting(b []byte) disk.Disk {
	return disk.Disk{Files: []disk.File{file(b, true)}, Now: names("j0"), Kept: names("j0")}
}

// settled answers disks on which a journal of these bytes outlives any crash, with and without files beside it. A draft has room on all of them.
func settled(b []byte) []disk.Disk {
	j := file(b, true)
	draft, other := text("draft"), file(frames(leaseC), true)
	return []disk.Disk{
		lasting(b),
		{Files: []disk.File{j, draft}, Now: names("j0 k1"), Kept: names("j0")},                                                                    // k in Now
		{Files: []disk.File{j, {}}, Now: names("j0 k1"), Kept: names("j0 k1")},                                                                    // in both, and empty
		{Files: []disk.File{j, other}, Now: names("j0"), Kept: names("j0 k1")},                                                                    // in Kept alone
		{Files: []disk.File{text("J"), text("ahead"), j, text("K"), text("kk")}, Now: names("J0 a1 j2"), Kept: names("K3 j2 kk4")},                // names like those
		{Files: []disk.File{text("ahead"), j, other, text("z")}, Now: names("a0 j1 k2 z3"), Kept: names("a3 i2 j1 k0")},                           // others swapped
		{Files: append([]disk.File{j}, texts(18)...), Now: append(names("j0"), numbered(1, 18)...), Kept: append(names("j0"), numbered(1, 9)...)}, // room for one file
	}
}

// without answers disks that have no journal, and have one after no crash, with and without files.
func without() []disk.Disk {
	draft, other := text("draft"), file(frames(leaseC), true)
	return []disk.Disk{
		{},
		{Files: []disk.File{}, Now: []disk.Entry{}, Kept: []disk.Entry{}},
		{Files: []disk.File{draft}, Now: names("k0")},
		{Files: []disk.File{other}, Kept: names("k0")},
		{Files: []disk.File{draft, other}, Now: names("k0"), Kept: names("k1")},
		{Files: []disk.File{text("J"), draft, text("z")}, Now: names("J0 k1 z2"), Kept: names("J0 jj2")},
		{Files: texts(19), Now: numbered(0, 19), Kept: numbered(0, 19)}, // room for one file
	}
}

// unsettled answers disks with a journal of these bytes that a crash may take, or take back.
func unsettled(b []byte) []disk.Disk {
	j, unsafe := file(b, true), file(b, false)
	draft, other := text("draft"), file(frames(leaseC), true)
	return []disk.Disk{
		{Files: []disk.File{unsafe}, Now: names("j0"), Kept: names("j0")},
		{Files: []disk.File{j}, Now: names("j0")},
		{Files: []disk.File{unsafe, draft}, Now: names("j0 k1"), Kept: names("k1")},
		{Files: []disk.File{j, other}, Now: names("j0"), Kept: names("j1 k0")},    // k renamed to j
		{Files: []disk.File{j, other}, Now: names("j0 k1"), Kept: names("j1 k0")}, // swapped
	}
}

// lost answers disks whose journal is in Kept alone.
func lost() []disk.Disk {
	old := file(frames(leaseA, laterA), true)
	return []disk.Disk{
		{Files: []disk.File{old}, Kept: names("j0")},
		{Files: []disk.File{old}, Now: names("k0"), Kept: names("j0")}, // j renamed to k
	}
}

// fullDisks answers disks with as many files as may be: with a journal of these bytes, with a draft as well, which may be in Kept too, and without a journal.
func fullDisks(b []byte) []disk.Disk {
	j, draft := file(b, true), text("draft")
	return []disk.Disk{
		{Files: append([]disk.File{j}, texts(19)...), Now: append(names("j0"), numbered(1, 19)...), Kept: append(names("j0"), numbered(1, 19)...)},
		{Files: append([]disk.File{j, draft}, texts(18)...), Now: append(names("j0 k1"), numbered(2, 18)...), Kept: names("j0")},
		{Files: append([]disk.File{j, draft}, texts(18)...), Now: append(names("j0 k1"), numbered(2, 18)...), Kept: names("j0 k1")},
		{Files: texts(20), Now: numbered(0, 20), Kept: numbered(0, 7)},
		{Files: texts(20), Now: numbered(0, 3), Kept: numbered(0, 20)},
	}
}

// wrongDisks answers disks that are not valid, with a draft, and with a journal that could be read and would be due.
func wrongDisks() []disk.Disk {
	j, k := file(frames(leaseA, laterA), true), text("draft")
	both := []disk.File{j, k}
	now, kept := names("j0 k1"), names("j0 k1")
	return []disk.Disk{
		{Now: now},
		{Kept: kept},
		{Files: append(both[:2:2], text("lost")), Now: now, Kept: kept},
		{Files: []disk.File{k, j}, Now: names("j1 k0"), Kept: names("j1 k0")},
		{Files: both, Now: names("k1 j0"), Kept: kept},
		{Files: both, Now: names("j0 j0 k1"), Kept: kept},
		{Files: []disk.File{j}, Now: names("j0 k0"), Kept: names("j0")},
		{Files: both, Now: now, Kept: names("j0 k2")},
		{Files: both, Now: now, Kept: []disk.Entry{{Name: "j", File: -1}}},
		{Files: both, Now: now, Kept: append([]disk.Entry{{File: 0}}, names("k1")...)},
		{Files: append(both[:2:2], text("z")), Now: append(names("j0 k1"), disk.Entry{Name: strings.Repeat("z", 17), File: 2}), Kept: kept},
		{Files: []disk.File{{Data: j.Data, Safe: -1}, k}, Now: now, Kept: kept},
		{Files: []disk.File{j, {Data: k.Data, Safe: len(k.Data) + 1}}, Now: now, Kept: kept},
		{Files: []disk.File{j, {Data: make([]byte, api.MaxBytes+1)}}, Now: now, Kept: kept},
		{Files: append(both[:2:2], texts(19)...), Now: append(names("j0 k1"), numbered(2, 19)...), Kept: kept},
	}
}

// tornEnds answers bytes behind which a frame would have to go on, and corruptEnds bytes that are wrong whatever follows them.
func tornEnds() [][]byte {
	return [][]byte{{0}, {0, 9}, {0, 9, 1, 1, 1}, {0, 1, 9, 9, 9, 9}, {7, 208, 0, 0, 0, 0}, unhex(frameA)[:20], frames(longest)[:273]}
}

func corruptEnds() [][]byte {
	spoilt := unhex(frameA)
	spoilt[20] ^= 1
	return [][]byte{{7, 209, 0, 0, 0, 0}, {255, 255, 255, 255, 255, 255}, {0, 0, 0, 0, 0, 1}, make([]byte, 6), spoilt, unhex("0001d202ef8d00"), handFrame(make([]byte, 15))}
}

// same: are two disks alike? Nil and empty lists are.
func same(d, c disk.Disk) bool {
	return slices.EqualFunc(d.Files, c.Files, func(f, g disk.File) bool { return bytes.Equal(f.Data, g.Data) && f.Safe == g.Safe }) &&
		slices.Equal(d.Now, c.Now) && slices.Equal(d.Kept, c.Kept)
}

// alike: are two stores?
func alike(s, c Store) bool {
	return slices.Equal(s.T, c.T) && same(s.D, c.D)
}

// tell answers a store in a few words.
func tell(s Store) string {
	x := fmt.Sprint(len(s.T), " leases")
	if len(s.T) < 5 {
		x = fmt.Sprintf("%.200q", fmt.Sprint(s.T))
	}
	x += fmt.Sprint("; Now ", s.D.Now, ", Kept ", s.D.Kept, ":")
	for _, f := range s.D.Files[:min(len(s.D.Files), 5)] {
		x += fmt.Sprintf(" %d bytes %x.. safe %d;", len(f.Data), f.Data[:min(len(f.Data), 12)], f.Safe)
	}
	return x
}

// opens: does Open answer just this?
func opens(t *testing.T, d disk.Disk, want Store, e api.Errno) {
	t.Helper()
	if s, f := Open(d); !alike(s, want) || f != e {
		t.Errorf("Open of %s: %s, error %d, not %s, error %d", tell(Store{D: d}), tell(s), f, tell(want), e)
	}
}

// puts: does Put answer just this?
func puts(t *testing.T, s Store, l api.Lease, fuel int, want Store, n int, whole bool) {
	t.Helper()
	if got, m, ok := Put(s, l, fuel); !alike(got, want) || m != n || ok != whole {
		t.Errorf("Put of %.60q with fuel %d, %s: %s, %d, %v, not %s, %d, %v", fmt.Sprint(l), fuel, tell(s), tell(got), m, ok, tell(want), n, whole)
	}
}

// cleans: does Clean answer just this?
func cleans(t *testing.T, s Store, many, fuel int, want Store, n int, whole bool) {
	t.Helper()
	if got, m, ok := Clean(s, many, fuel); !alike(got, want) || m != n || ok != whole {
		t.Errorf("Clean with %d and fuel %d, %s: %s, %d, %v, not %s, %d, %v", many, fuel, tell(s), tell(got), m, ok, tell(want), n, whole)
	}
}

func TestFixtures(t *testing.T) { // what the other tests lean on
	if hex.EncodeToString(frames(leaseA)) != frameA {
		t.Errorf("the frame of leaseA by hand: %x", frames(leaseA))
	}
	b := frames(leaseA, laterA)
	for i, d := range slices.Concat(settled(b), without(), unsettled(b), lost(), fullDisks(b)) {
		if !disk.Right(d) || !same(modelOf(d).disk(), d) {
			t.Errorf("disk %d is not valid, or the model loses it: %s", i, tell(Store{D: d}))
		}
	}
	for i, d := range wrongDisks() {
		if disk.Right(d) || !same(modelOf(d).disk(), disk.Disk{}) {
			t.Errorf("disk %d is valid: %s", i, tell(Store{D: d}))
		}
	}
	for i, l := range tables() {
		if !table.Right(l) || !handTable(l) {
			t.Errorf("table %d is none", i)
		}
	}
	for i, l := range noTables() {
		if table.Right(l) || handTable(l) {
			t.Errorf("list %d is a table", i)
		}
	}
	for _, n := range []int{274, 280, 294, 295, 548, 9999, 20000, 20001} {
		if m := len(frames(filling(n)...)); m != n {
			t.Errorf("frames of %d bytes, not of %d", m, n)
		}
	}
	for _, l := range someLease {
		if !handRight(l) {
			t.Errorf("%v is wrong", l)
		}
	}
	for _, x := range tornEnds() {
		faulty(t, x, api.ErrMore)
	}
	for _, x := range corruptEnds() {
		faulty(t, x, api.ErrForm)
	}
}

// faulty: has a journal that ends with these bytes just this error, by the journal's own reading and by hand?
func faulty(t *testing.T, end []byte, want api.Errno) {
	t.Helper()
	for _, l := range [][]api.Lease{nil, {leaseA}} {
		b := slices.Concat(frames(l...), end)
		_, _, e := journal.Read(lasting(b))
		if _, _, f := handRead(b); e != want || f != want {
			t.Errorf("a journal with %x at its end: error %d, by hand %d, not %d", end, e, f, want)
		}
	}
}
