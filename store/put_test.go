package store

import (
	"math"
	"math/rand"
	"slices"
	"testing"

	"boarder/api"
	"boarder/disk"
)

// fuels answers numbers of changes that can be performed: with and without a limit, and more of them than there are.
func fuels() []int {
	return []int{4, 0, 1, 2, 3, 5, 6, 99, 1 << 32, 1<<32 + 1, math.MaxInt, -1, -2, -3, -1 << 32, math.MinInt}
}

// anyDisks answers disks with a journal of these leases, and such without one.
func anyDisks(l ...api.Lease) []disk.Disk {
	b := frames(l...)
	return slices.Concat(settled(b), unsettled(b), without(), lost(), fullDisks(b))
}

func TestExample(t *testing.T) { // the chapter's example, all of it
	s, n, whole := Put(Store{}, leaseA, 2)
	if n != 2 || whole || len(s.T) != 0 {
		t.Errorf("with fuel 2: %d, %v, %s", n, whole, tell(s))
	}
	after := disk.Crash(s.D, nil, false)
	if l := disk.Names(after); len(l) != 0 {
		t.Errorf("after a crash: %v", l)
	}
	opens(t, after, Store{}, api.OK)
	s, n, whole = Put(Store{}, leaseA, 3)
	if n != 3 || !whole || !slices.Equal(s.T, []api.Lease{leaseA}) {
		t.Errorf("with fuel 3: %d, %v, %s", n, whole, tell(s))
	}
}

func TestPutWords(t *testing.T) { // P20.2: written out by hand
	lease, known := unhex(frameA), []api.Lease{leaseA}
	created := disk.Disk{Files: []disk.File{file(lease, false)}, Now: names("j0")}
	synced := disk.Disk{Files: []disk.File{file(lease, true)}, Now: names("j0")}
	puts(t, Store{}, leaseA, 0, Store{}, 0, false)
	puts(t, Store{}, leaseA, 1, Store{D: created}, 1, false)
	puts(t, Store{}, leaseA, 2, Store{D: synced}, 2, false)
	for _, fuel := range []int{3, 4, 99, math.MaxInt, -1, -2, math.MinInt} {
		puts(t, Store{}, leaseA, fuel, Store{T: known, D: lasting(lease)}, 3, true)
	}

	// A second lease of that address: the name of the journal is durable, and two changes are enough.
	s := Store{T: known, D: lasting(lease)}
	both := slices.Concat(lease, frames(laterA))
	half := disk.Disk{Files: []disk.File{{Data: both, Safe: len(lease)}}, Now: names("j0"), Kept: names("j0")}
	puts(t, s, laterA, 0, s, 0, false)
	puts(t, s, laterA, 1, Store{T: known, D: half}, 1, false)
	for _, fuel := range []int{2, 3, math.MaxInt, -1, math.MinInt} {
		puts(t, s, laterA, fuel, Store{T: []api.Lease{laterA}, D: lasting(both)}, 2, true)
	}

	// And one of another address, in its place ahead.
	first := slices.Concat(lease, frames(shortest))
	puts(t, s, shortest, -1, Store{T: []api.Lease{shortest, leaseA}, D: lasting(first)}, 2, true)

	// What can't be stored changes nothing.
	puts(t, s, api.Lease{}, -1, s, 0, false)
	full := Store{T: row(64), D: lasting(lease)}
	puts(t, full, leaseC, -1, full, 0, false)
	puts(t, full, at(73, 999), -1, Store{T: append(row(63), at(73, 999)), D: lasting(append(lease, frames(at(73, 999))...))}, 2, true)
	for _, b := range []string{frameA + "000901", frameA + "07d100000000", frameA + "0001d202ef8d00"} {
		faulty := Store{T: known, D: lasting(unhex(b))}
		puts(t, faulty, laterA, -1, faulty, 0, false)
	}
	crowded := Store{T: known, D: lasting(frames(filling(api.MaxBytes)...))}
	puts(t, crowded, laterA, -1, crowded, 0, false)
}

// everyPut holds Put of a store against the second reading, with every fuel, the first one twice.
func everyPut(t *testing.T, s Store, leases ...api.Lease) {
	t.Helper()
	for _, l := range leases {
		for _, fuel := range append(fuels(), fuels()[0]) {
			want, n, whole := handPut(s, l, fuel)
			puts(t, s, l, fuel, want, n, whole)
		}
	}
}

func TestPut(t *testing.T) { // P20.2, R4: every table with every disk, whether they belong together or not
	leases := append(slices.Clone(someLease), at(10, 77), at(73, 78), wrongLeases()[0])
	for _, had := range [][]api.Lease{nil, {leaseA}, {leaseC, leaseA, laterA}} {
		for _, d := range anyDisks(had...) {
			for _, table := range tables() {
				everyPut(t, Store{T: table, D: d}, leases...)
			}
		}
	}
}

func TestPutWrongLease(t *testing.T) { // P20.2: a lease that is not right, also where something else is wrong
	for _, l := range wrongLeases() {
		for _, table := range slices.Concat(tables(), noTables()) {
			for _, d := range []disk.Disk{{}, lasting(frames(leaseA)), lasting([]byte{0}), fullDisks(nil)[3], wrongDisks()[0]} {
				s := Store{T: table, D: d}
				for _, fuel := range []int{-1, 0, 3} {
					puts(t, s, l, fuel, s, 0, false)
				}
			}
		}
	}
}

func TestPutFull(t *testing.T) { // P20.2: a table that has no room but for addresses that are known
	for n := 62; n <= 64; n++ {
		for _, d := range settled(frames(row(n)...)) {
			s := Store{T: row(n), D: d}
			for _, l := range []api.Lease{shortest, leaseA, leaseC, at(10+n, 5)} {
				everyPut(t, s, l)
				got, _, whole := Put(s, l, -1)
				if whole != (n < 64) || n == 64 && !alike(got, s) {
					t.Errorf("%d leases, and one more: %v", n, whole)
				}
			}
			for _, l := range []api.Lease{at(10, 900), at(10+n-1, 901), at(40, 902)} {
				everyPut(t, s, l)
				if got, _, whole := Put(s, l, -1); !whole || len(got.T) != n {
					t.Errorf("%d leases, one of them anew: %v", n, whole)
				}
			}
		}
	}
}

func TestPutFaulty(t *testing.T) { // P20.2: on a disk whose journal is torn or corrupt
	for _, had := range [][]api.Lease{nil, {leaseA}, someLease} {
		for _, end := range append(tornEnds(), corruptEnds()...) {
			b := slices.Concat(frames(had...), end)
			for _, d := range append(settled(b), unsettled(b)...) {
				for _, l := range []api.Lease{leaseA, leaseB} {
					s := Store{T: handLast(had), D: d}
					for _, fuel := range fuels() {
						puts(t, s, l, fuel, s, 0, false)
					}
				}
			}
		}
	}
}

func TestPutFullJournal(t *testing.T) { // P20.2: a journal that has room for the frame, or for one byte less
	for _, size := range []int{21, 22, 100, 273, 274} {
		for _, short := range []int{-1, 0, 1, 20} {
			had := filling(api.MaxBytes - size + short)
			for _, d := range settled(frames(had...)) {
				s := Store{T: handLast(had), D: d}
				everyPut(t, s, sized(2, size))
				got, n, whole := Put(s, sized(2, size), -1)
				if short > 0 && (n != 0 || whole || !alike(got, s)) || short <= 0 && (n != 2 || !whole) {
					t.Errorf("a frame of %d bytes, %d too many: %d, %v", size, short, n, whole)
				}
			}
		}
	}
}

func TestPutFullDisk(t *testing.T) { // P20.2: a disk that has no room for a journal
	for i, d := range fullDisks(frames(leaseA)) {
		everyPut(t, Store{D: d}, leaseA, leaseB)
		if _, n, whole := Put(Store{D: d}, leaseB, -1); i >= 3 && (n != 0 || whole) || i < 3 && (n != 2 || !whole) {
			t.Errorf("full disk %d: %d, %v", i, n, whole)
		}
	}
}

func TestPutOnNoTable(t *testing.T) { // P20.2, P0: as on the empty table, and unchanged where not all is performed
	for _, table := range noTables() {
		for _, d := range []disk.Disk{{}, lasting(nil), lasting(frames(leaseA, laterA)), unsettled(frames(leaseB))[3], without()[6], fullDisks(nil)[3], wrongDisks()[1]} {
			everyPut(t, Store{T: table, D: d}, leaseA, leaseB, leaseC)
		}
		s := Store{T: table}
		puts(t, s, leaseA, -1, Store{T: []api.Lease{leaseA}, D: lasting(frames(leaseA))}, 3, true)
		puts(t, s, leaseA, 2, Store{T: table, D: disk.Disk{Files: []disk.File{file(frames(leaseA), true)}, Now: names("j0")}}, 2, false)
	}
}

func TestPutOnWrongDisk(t *testing.T) { // P20.2, P0: as on the zero disk
	for _, d := range wrongDisks() {
		for _, table := range tables() {
			everyPut(t, Store{T: table, D: d}, leaseA, leaseC)
		}
		puts(t, Store{D: d}, leaseA, -1, Store{T: []api.Lease{leaseA}, D: lasting(frames(leaseA))}, 3, true)
	}
}

func TestPutRandom(t *testing.T) { // P20.2
	r := rand.New(rand.NewSource(202))
	seen := map[int]int{}
	for range 4000 {
		had := make([]api.Lease, r.Intn(20))
		for i := range had {
			had[i] = at(r.Intn(90), i)
		}
		ds := anyDisks(had...)
		s := Store{T: handLast(had), D: ds[r.Intn(len(ds))]}
		l, fuel := at(r.Intn(90), 99), r.Intn(6)-1
		want, n, whole := handPut(s, l, fuel)
		puts(t, s, l, fuel, want, n, whole)
		seen[n]++
	}
	for n := range 4 {
		if seen[n] < 200 {
			t.Errorf("too few with %d changes: %v", n, seen)
		}
	}
}
