package store

import (
	"math"
	"math/rand"
	"slices"
	"testing"

	"boarder/api"
	"boarder/disk"
	"boarder/journal"
)

func TestCleanWords(t *testing.T) { // P20.3: written out by hand
	long, short := frames(leaseA, laterA), frames(laterA)
	s := Store{T: []api.Lease{laterA}, D: lasting(long)}
	drafted := disk.Disk{Files: []disk.File{file(long, true), file(short, false)}, Now: names("j0 k1"), Kept: names("j0")}
	synced := disk.Disk{Files: []disk.File{file(long, true), file(short, true)}, Now: names("j0 k1"), Kept: names("j0")}
	renamed := disk.Disk{Files: []disk.File{file(short, true), file(long, true)}, Now: names("j0"), Kept: names("j1")}
	cleans(t, s, 1, 0, s, 0, false)
	cleans(t, s, 1, 1, Store{T: s.T, D: drafted}, 1, false)
	cleans(t, s, 1, 2, Store{T: s.T, D: synced}, 2, false)
	cleans(t, s, 1, 3, Store{T: s.T, D: renamed}, 3, false)
	done := Store{T: s.T, D: lasting(short)}
	for _, fuel := range []int{4, 5, 99, math.MaxInt, -1, -2, math.MinInt} {
		cleans(t, s, 1, fuel, done, 4, true)
		cleans(t, done, -1, fuel, done, 0, true)
		// It is due with more than many leases, not with as many.
		cleans(t, s, 2, fuel, s, 0, true)
		cleans(t, s, math.MaxInt, fuel, s, 0, true)
		cleans(t, s, math.MinInt, fuel, done, 4, true)
	}

	// What is left of an earlier draft is removed first.
	s.D = disk.Disk{Files: []disk.File{file(long, true), text("draft")}, Now: names("j0 k1"), Kept: names("j0")}
	cleans(t, s, 0, 1, Store{T: s.T, D: lasting(long)}, 1, false)
	cleans(t, s, 0, 2, Store{T: s.T, D: drafted}, 2, false)
	cleans(t, s, 0, 5, done, 5, true)
	cleans(t, s, 0, -1, done, 5, true)

	// An empty table leaves an empty journal.
	cleans(t, Store{D: lasting(long)}, 1, -1, Store{D: lasting(nil)}, 4, true)
	cleans(t, Store{}, -1, -1, Store{}, 0, true)

	// What is no lease can't be written.
	wrong := Store{T: []api.Lease{{Addr: 7}}, D: lasting(long)}
	cleans(t, wrong, 1, -1, wrong, 0, false)
	cleans(t, wrong, 2, -1, wrong, 0, true)
}

// everyClean holds Clean of a store against the second reading, with every fuel, the first one twice.
func everyClean(t *testing.T, s Store, manys ...int) {
	t.Helper()
	for _, many := range manys {
		for _, fuel := range append(fuels(), fuels()[0]) {
			want, n, whole := handClean(s, many, fuel)
			cleans(t, s, many, fuel, want, n, whole)
		}
	}
}

// around answers numbers below 0, and those around n.
func around(n int) []int {
	return []int{math.MinInt, -1 << 32, -1, 0, 1, n - 1, n, n + 1, n + 256, n + 1<<32, math.MaxInt}
}

func TestClean(t *testing.T) { // P20.3, R4: every table with every disk, whether they belong together or not
	for _, had := range [][]api.Lease{nil, {leaseA}, {leaseA, leaseB}, {leaseC, leaseA, laterA}, slices.Repeat(someLease, 3)} {
		for _, d := range anyDisks(had...) {
			for _, table := range tables() {
				everyClean(t, Store{T: table, D: d}, around(len(had))...)
			}
		}
	}
}

func TestCleanDue(t *testing.T) { // P20.3: not due, and just due: by how many leases there are, and by how many of them are older ones
	for n := range 12 {
		for older := range n + 1 {
			l := append(row(n-older), slices.Repeat([]api.Lease{at(10, 99)}, older)...)
			due := older > 0 && n > 1
			for i, d := range settled(frames(l...)) {
				s := Store{T: handLast(l), D: d}
				for _, many := range around(n) {
					got, changes, whole := Clean(s, many, -1)
					read, _, e := journal.Read(got.D)
					if !due || n <= many {
						if changes != 0 || !whole || !alike(got, s) {
							t.Errorf("%d leases, %d older, many %d, disk %d: %d, %v", n, older, many, i, changes, whole)
						}
						continue
					}
					if changes < 4 || !whole || e != api.OK || !slices.Equal(read, s.T) || !slices.Equal(got.T, s.T) {
						t.Errorf("%d leases, %d older, many %d, disk %d: %d, %v, %d leases", n, older, many, i, changes, whole, len(read))
					}
					cleans(t, got, many, -1, got, 0, true)
				}
			}
		}
	}
}

func TestCleanFaulty(t *testing.T) { // P20.3: with a torn journal or a corrupt one it is not due
	for _, end := range append(tornEnds(), corruptEnds()...) {
		b := slices.Concat(frames(leaseA, laterA, leaseB), end)
		for _, d := range append(settled(b), unsettled(b)...) {
			for _, s := range []Store{{T: []api.Lease{laterA, leaseB}, D: d}, {T: noTables()[0], D: d}, {T: wrongLeases()[:1], D: d}} {
				for _, fuel := range fuels() {
					cleans(t, s, 0, fuel, s, 0, true)
				}
			}
		}
	}
}

func TestCleanWrongLease(t *testing.T) { // P20.3: changes that can't be made, of a list with a lease that is not right
	for _, d := range append(settled(frames(leaseA, laterA)), unsettled(frames(leaseA, laterA))...) {
		for _, l := range wrongLeases() {
			for _, table := range [][]api.Lease{{l}, {l, leaseA}, {leaseA, l}, {shortest, l, leaseC}} {
				s := Store{T: table, D: d}
				for _, fuel := range []int{-1, 0, 1, 4, math.MinInt} {
					cleans(t, s, 1, fuel, s, 0, false)
					cleans(t, s, 2, fuel, s, 0, true)
				}
			}
		}
	}
}

func TestCleanGreatList(t *testing.T) { // P20.3: changes that can't be made, as their frames have more bytes than a file
	d := lasting(frames(leaseA, laterA))
	for over := -2; over <= 2; over++ {
		s := Store{T: filling(api.MaxBytes + over), D: d}
		everyClean(t, s, 0, 1, 2)
		got, n, whole := Clean(s, 1, -1)
		if over > 0 && (n != 0 || whole || !alike(got, s)) || over <= 0 && (n != 4 || !whole) {
			t.Errorf("%d bytes too many: %d, %v", over, n, whole)
		}
	}
}

func TestCleanOfNoTable(t *testing.T) { // P20.3, P0: what is no table is written as it is, where its leases are right
	b := frames(leaseB, leaseA, leaseB)
	for _, table := range noTables() {
		for _, d := range append(settled(b), unsettled(b)...) {
			everyClean(t, Store{T: table, D: d}, 2, 3)
		}
	}
	cleans(t, Store{T: []api.Lease{leaseB, leaseA, leaseA}, D: lasting(b)}, 2, -1, Store{T: []api.Lease{leaseB, leaseA, leaseA}, D: lasting(frames(leaseB, leaseA, leaseA))}, 4, true)
}

func TestCleanWithoutRoom(t *testing.T) { // P20.3: changes of which one has an error
	had := []api.Lease{leaseA, laterA}
	for i, want := range []int{0, 5, 1} {
		s := Store{T: handLast(had), D: fullDisks(frames(had...))[i]}
		everyClean(t, s, -1, 1, 2)
		got, n, whole := Clean(s, 1, -1)
		if n != want || whole != (want == 5) || !slices.Equal(got.T, s.T) {
			t.Errorf("full disk %d: %d, %v", i, n, whole)
		}
		if o, e := Open(got.D); e != api.OK || !slices.Equal(o.T, s.T) {
			t.Errorf("full disk %d, opened again: %v, error %d", i, o.T, e)
		}
	}
}

func TestCleanOnWrongDisk(t *testing.T) { // P20.3, P0: as on the zero disk, which is not due; the store stays as it is
	for _, d := range wrongDisks() {
		for _, table := range append(tables(), noTables()...) {
			s := Store{T: table, D: d}
			for _, many := range []int{-1, 0, 1, math.MinInt} {
				cleans(t, s, many, -1, s, 0, true)
				cleans(t, s, many, 0, s, 0, true)
			}
		}
	}
}

func TestCleanRandom(t *testing.T) { // P20.3
	r := rand.New(rand.NewSource(203))
	seen := map[int]int{}
	for range 4000 {
		had := make([]api.Lease, r.Intn(20))
		for i := range had {
			had[i] = at(r.Intn(90), i)
		}
		ds := anyDisks(had...)
		s := Store{T: handLast(had), D: ds[r.Intn(len(ds))]}
		many, fuel := r.Intn(20)-2, r.Intn(7)-1
		want, n, whole := handClean(s, many, fuel)
		cleans(t, s, many, fuel, want, n, whole)
		seen[n]++
	}
	for n := range 6 {
		if seen[n] < 30 {
			t.Errorf("too few with %d changes: %v", n, seen)
		}
	}
}
