package clean

import (
	"bytes"
	"encoding/binary"
	"encoding/hex"
	"fmt"
	"hash/crc32"
	"maps"
	"math"
	"slices"
	"strings"
	"testing"

	"boarder/api"
	"boarder/disk"
	"boarder/journal"
)

// Leases that are valid: the shortest and the longest ones among them, and of some addresses several.
var (
	leaseA    = api.Lease{Addr: 1, State: api.Bound, Expiry: 258, Key: "i01"}
	laterA    = api.Lease{Addr: 1, State: api.Released, Expiry: 3, Key: "i01"}
	leaseB    = api.Lease{Addr: 2, State: api.Released, Expiry: 9, Key: "hab"}
	leaseC    = api.Lease{Addr: api.MaxAddr, State: api.Declined, Expiry: api.MaxTime, Key: "h\x01\x02\x00\x00\x00\x00\x07"}
	shortest  = api.Lease{State: api.Bound, Key: "i\x00\x00"}
	longest   = api.Lease{Addr: 167772167, State: api.Bound, Expiry: 1 << 40, Key: "i" + strings.Repeat("long!", 51)}
	someLease = []api.Lease{leaseA, leaseB, leaseC, shortest, longest, laterA}
)

// frameA is the frame of leaseA.
const frameA = "000fd30fb715" + "000000010100000000000102693031"

// unhex answers bytes by their digits.
func unhex(s string) []byte {
	b, err := hex.DecodeString(s)
	if err != nil {
		panic(err)
	}
	return b
}

// handFrames answers the frames of valid leases, by the words of the chapters 2 and 9.
func handFrames(l ...api.Lease) []byte {
	var all []byte
	for _, x := range l {
		b := unhex(fmt.Sprintf("%08x%02x%014x%x", x.Addr, x.State, x.Expiry, x.Key))
		all = binary.BigEndian.AppendUint16(all, uint16(len(b)))
		all = binary.BigEndian.AppendUint32(all, crc32.ChecksumIEEE(b))
		all = append(all, b...)
	}
	return all
}

// sized answers a valid lease whose frame has so many bytes: from 21 to 274.
func sized(n int) api.Lease {
	return api.Lease{Addr: 9, State: api.Declined, Expiry: 7, Key: "i" + strings.Repeat("s", n-19)}
}

// handLast answers the latest leases, by the chapter's words.
func handLast(l []api.Lease) []api.Lease {
	latest := map[int]api.Lease{}
	for _, x := range l {
		latest[x.Addr] = x
	}
	var answer []api.Lease
	for _, a := range slices.Sorted(maps.Keys(latest)) {
		answer = append(answer, latest[a])
	}
	return answer
}

// wrongLeases answers leases that are not valid.
func wrongLeases() []api.Lease {
	var all []api.Lease
	for _, f := range []func(*api.Lease){
		func(l *api.Lease) { *l = api.Lease{} },
		func(l *api.Lease) { l.Addr = -1 },
		func(l *api.Lease) { l.Addr = api.MaxAddr + 1 },
		func(l *api.Lease) { l.Addr = math.MinInt },
		func(l *api.Lease) { l.Addr = math.MaxInt },
		func(l *api.Lease) { l.State = 0 },
		func(l *api.Lease) { l.State = 4 },
		func(l *api.Lease) { l.State = math.MinInt },
		func(l *api.Lease) { l.Expiry = -1 },
		func(l *api.Lease) { l.Expiry = api.MaxTime + 1 },
		func(l *api.Lease) { l.Expiry = math.MaxInt },
		func(l *api.Lease) { l.Key = "" },
		func(l *api.Lease) { l.Key = "i1" },
		func(l *api.Lease) { l.Key = "k01" },
		func(l *api.Lease) { l.Key = "h" + strings.Repeat("x", 18) },
		func(l *api.Lease) { l.Key = "i" + strings.Repeat("x", 256) },
		func(l *api.Lease) { l.Key = "i" + strings.Repeat("x", 100000) },
	} {
		l := leaseA
		f(&l)
		all = append(all, l)
	}
	return all
}

// file answers a file, all of it safe or none of it.
func file(b []byte, safe bool) disk.File {
	f := disk.File{Data: b}
	if safe {
		f.Safe = len(b)
	}
	return f
}

// text answers a file that is no journal, and of which only a part is safe.
func text(s string) disk.File {
	return disk.File{Data: []byte(s), Safe: len(s) / 2}
}

// names answers entries: "a0 j1" are the names a and j, of the files 0 and 1.
func names(s string) []disk.Entry {
	var l []disk.Entry
	for _, w := range strings.Fields(s) {
		l = append(l, disk.Entry{Name: w[:len(w)-1], File: int(w[len(w)-1] - '0')})
	}
	return l
}

// many answers files for the names of numbered.
func many(n int) []disk.File {
	var l []disk.File
	for i := range n {
		l = append(l, text(fmt.Sprint("text ", i)))
	}
	return l
}

// numbered answers n names behind j and k, for the files of these numbers on.
func numbered(from, n int) []disk.Entry {
	var l []disk.Entry
	for i := range n {
		l = append(l, disk.Entry{Name: fmt.Sprintf("m%02d", i), File: from + i})
	}
	return l
}

// settled answers disks on which a journal of these bytes outlives any crash, with and without a draft, and with other files. A new draft has room on all of them.
func settled(b []byte) []disk.Disk {
	j := file(b, true)
	draft, other := text("draft"), file(handFrames(leaseC), true)
	return []disk.Disk{
		{Files: []disk.File{j}, Now: names("j0"), Kept: names("j0")},
		{Files: []disk.File{j, draft}, Now: names("j0 k1"), Kept: names("j0")},                                                                             // k in Now
		{Files: []disk.File{j, {}}, Now: names("j0 k1"), Kept: names("j0 k1")},                                                                             // in both, and empty
		{Files: []disk.File{j, draft}, Now: names("j0"), Kept: names("j0 k1")},                                                                             // in Kept alone
		{Files: []disk.File{j, draft, other}, Now: names("j0 k1"), Kept: names("j0 k2")},                                                                   // two of them
		{Files: []disk.File{text("J"), text("ahead"), j, text("K"), text("kk")}, Now: names("J0 a1 j2"), Kept: names("K3 j2 kk4")},                         // names like those
		{Files: []disk.File{text("ahead"), j, other, text("z")}, Now: names("a0 j1 k2 z3"), Kept: names("a3 i2 j1 k0")},                                    // others swapped
		{Files: append([]disk.File{j}, many(18)...), Now: append(names("j0"), numbered(1, 18)...), Kept: append(names("j0"), numbered(1, 18)...)},          // room for one file
		{Files: append([]disk.File{j, draft}, many(18)...), Now: append(names("j0 k1"), numbered(2, 18)...), Kept: names("j0")},                            // for one in the old draft's place
		{Files: append([]disk.File{j}, many(18)...), Now: append(names("j0"), numbered(1, 9)...), Kept: append(names("j0"), numbered(1, 18)...)},           // some in Kept alone
		{Files: append([]disk.File{j, draft}, many(17)...), Now: append(names("j0 k1"), numbered(2, 17)...), Kept: append(names("j0 k1"), names("l2")...)}, // k stays in Kept
	}
}

// without answers disks that have no journal, and have one after no crash, with and without a draft.
func without() []disk.Disk {
	draft, other := text("draft"), file(handFrames(leaseC), true)
	return []disk.Disk{
		{},
		{Files: []disk.File{}, Now: []disk.Entry{}, Kept: []disk.Entry{}},
		{Files: []disk.File{draft}, Now: names("k0")},
		{Files: []disk.File{{}}, Now: names("k0"), Kept: names("k0")},
		{Files: []disk.File{other}, Kept: names("k0")},
		{Files: []disk.File{draft, other}, Now: names("k0"), Kept: names("k1")},
		{Files: []disk.File{text("J"), draft, text("z")}, Now: names("J0 k1 z2"), Kept: names("J0 jj2")},
		{Files: many(19), Now: numbered(0, 19), Kept: numbered(0, 19)},
	}
}

// unsettled answers disks with a journal of these bytes that a crash may take, or take back.
func unsettled(b []byte) []disk.Disk {
	j, unsafe, draft := file(b, true), file(b, false), text("draft")
	other := file(handFrames(leaseC), true)
	return []disk.Disk{
		{Files: []disk.File{unsafe}, Now: names("j0"), Kept: names("j0")},
		{Files: []disk.File{j}, Now: names("j0")},
		{Files: []disk.File{unsafe, draft}, Now: names("j0 k1"), Kept: names("k1")},
		{Files: []disk.File{j, other}, Now: names("j0"), Kept: names("j1 k0")},    // k renamed to j
		{Files: []disk.File{j, other}, Now: names("j0 k1"), Kept: names("j1 k0")}, // swapped
		{Files: []disk.File{j}, Now: names("j0"), Kept: names("k0")},
	}
}

// lost answers disks whose journal is in Kept alone.
func lost() []disk.Disk {
	old := file(handFrames(leaseA, laterA), true)
	return []disk.Disk{
		{Files: []disk.File{old}, Kept: names("j0")},
		{Files: []disk.File{old}, Now: names("k0"), Kept: names("j0")}, // j renamed to k
		{Files: []disk.File{text("draft"), old}, Now: names("k0"), Kept: names("j1 k0")},
	}
}

// fullDisk answers a disk with a journal of these bytes, and as many files as may be.
func fullDisk(b []byte) disk.Disk {
	return disk.Disk{Files: append([]disk.File{file(b, true)}, many(19)...), Now: append(names("j0"), numbered(1, 19)...), Kept: append(names("j0"), numbered(1, 19)...)}
}

// wrongDisks answers disks that are not valid, with a draft, and with a journal that could be read and would be due.
func wrongDisks() []disk.Disk {
	j, k := file(handFrames(leaseA, laterA), true), text("draft")
	both := []disk.File{j, k}
	now, kept := names("j0 k1"), names("j0 k1")
	return []disk.Disk{
		{Now: now},
		{Kept: kept},
		{Files: append(both[:2:2], text("lost")), Now: now, Kept: kept},
		{Files: []disk.File{k, j}, Now: names("j1 k0"), Kept: names("j1 k0")},
		{Files: both, Now: names("k1 j0"), Kept: kept},
		{Files: both, Now: names("j0 k1 k1"), Kept: kept},
		{Files: both, Now: names("j0 j0 k1"), Kept: kept},
		{Files: []disk.File{j}, Now: names("j0 k0"), Kept: names("j0")},
		{Files: both, Now: now, Kept: names("j0 k2")},
		{Files: both, Now: now, Kept: []disk.Entry{{Name: "j", File: -1}}},
		{Files: both, Now: now, Kept: append([]disk.Entry{{File: 0}}, names("k1")...)},
		{Files: append(both[:2:2], text("z")), Now: append(names("j0 k1"), disk.Entry{Name: strings.Repeat("z", 17), File: 2}), Kept: kept},
		{Files: []disk.File{{Data: j.Data, Safe: -1}, k}, Now: now, Kept: kept},
		{Files: []disk.File{j, {Data: k.Data, Safe: len(k.Data) + 1}}, Now: now, Kept: kept},
		{Files: []disk.File{j, {Data: make([]byte, api.MaxBytes+1)}}, Now: now, Kept: kept},
		{Files: append(both[:2:2], many(19)...), Now: append(names("j0 k1"), numbered(2, 19)...), Kept: kept},
	}
}

// tornEnds answers bytes behind which a frame would have to go on, and corruptEnds bytes that are wrong whatever follows them.
func tornEnds() [][]byte {
	return [][]byte{{0}, {0, 9}, {0, 9, 1, 1, 1}, {0, 1, 9, 9, 9, 9}, {7, 208, 0, 0, 0, 0}, unhex(frameA)[:20], handFrames(longest)[:273]}
}

func corruptEnds() [][]byte {
	spoilt := unhex(frameA)
	spoilt[20] ^= 1
	return [][]byte{{7, 209, 0, 0, 0, 0}, {255, 255, 255, 255, 255, 255}, {0, 0, 0, 0, 0, 1}, make([]byte, 6), spoilt}
}

// same: are two disks alike? Nil and empty lists are.
func same(d, c disk.Disk) bool {
	return slices.EqualFunc(d.Files, c.Files, func(f, g disk.File) bool { return bytes.Equal(f.Data, g.Data) && f.Safe == g.Safe }) &&
		slices.Equal(d.Now, c.Now) && slices.Equal(d.Kept, c.Kept)
}

// tell answers a disk in a few words.
func tell(d disk.Disk) string {
	s := fmt.Sprint("Now ", d.Now, ", Kept ", d.Kept, ":")
	for _, f := range d.Files[:min(len(d.Files), 5)] {
		s += fmt.Sprintf(" %d bytes %x.. safe %d;", len(f.Data), f.Data[:min(len(f.Data), 12)], f.Safe)
	}
	return s
}

// has: has a disk a name now?
func has(d disk.Disk, name string) bool {
	return slices.ContainsFunc(d.Now, func(e disk.Entry) bool { return e.Name == name })
}

// reads: does the journal have just these leases, and nothing else?
func reads(t *testing.T, d disk.Disk, want []api.Lease) {
	t.Helper()
	if l, n, e := journal.Read(d); !slices.Equal(l, want) || n != len(handFrames(want...)) || e != api.OK {
		t.Fatalf("%s: %d leases, %d bytes, error %d, not %d leases", tell(d), len(l), n, e, len(want))
	}
}

func TestFixtures(t *testing.T) { // what the other tests lean on
	if hex.EncodeToString(handFrames(leaseA)) != frameA {
		t.Errorf("the frame of leaseA by hand: %x", handFrames(leaseA))
	}
	b := handFrames(leaseA, laterA)
	for i, d := range slices.Concat(settled(b), without(), unsettled(b), lost(), []disk.Disk{fullDisk(b)}) {
		if !disk.Right(d) {
			t.Errorf("disk %d is not valid: %s", i, tell(d))
		}
	}
	for i, d := range wrongDisks() {
		if disk.Right(d) {
			t.Errorf("disk %d is valid: %s", i, tell(d))
		}
	}
	for _, n := range []int{21, 22, 29, 273, 274} {
		if m := len(handFrames(sized(n))); m != n {
			t.Errorf("a frame of %d bytes, not of %d", m, n)
		}
	}
	for i, l := range wrongLeases() {
		if slices.Contains(someLease, l) {
			t.Errorf("wrong lease %d is a right one", i)
		}
	}
	for _, x := range tornEnds() {
		faulty(t, x, api.ErrMore)
	}
	for _, x := range corruptEnds() {
		faulty(t, x, api.ErrForm)
	}
}

// faulty: has a journal that ends with these bytes just this error?
func faulty(t *testing.T, end []byte, want api.Errno) {
	t.Helper()
	for _, l := range [][]api.Lease{nil, {leaseA}} {
		if _, _, e := journal.Read(settled(append(handFrames(l...), end...))[0]); e != want {
			t.Errorf("a journal with %x at its end: error %d, not %d", end, e, want)
		}
	}
}
