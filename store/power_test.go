package store

import (
	"fmt"
	"math/rand"
	"slices"
	"testing"

	"boarder/api"
	"boarder/disk"
	"boarder/journal"
)

// opened answers stores as they are when a disk with a journal of these leases has been opened.
func opened(t *testing.T, l ...api.Lease) []Store {
	t.Helper()
	b := frames(l...)
	ds := append(settled(b), unsettled(b)...)
	if len(l) == 0 {
		ds = slices.Concat(ds, without(), lost())
	}
	var all []Store
	for _, d := range ds {
		s, e := Open(d)
		if e != api.OK || !slices.Equal(s.T, handLast(l)) {
			t.Fatalf("%s: %s, error %d", tell(Store{D: d}), tell(s), e)
		}
		all = append(all, s)
	}
	return all
}

// keepings answers how much of each file may be kept: of all files alike, and of one of the first ones alone.
func keepings(size int) [][]int {
	all := [][]int{nil}
	for keep := -1; keep <= size+1; keep++ {
		all = append(all, slices.Repeat([]int{keep}, api.MaxFiles))
	}
	for i := range 4 {
		for _, keep := range []int{1, size / 2, size - 1, api.MaxBytes} {
			one := make([]int, i+1)
			one[i] = keep
			all = append(all, one)
		}
	}
	return all
}

// again answers the table of a store that is opened behind a crash, and holds that nothing further is lost.
func again(t *testing.T, d disk.Disk, keep []int, dir bool) []api.Lease {
	t.Helper()
	s, e := Open(disk.Crash(d, keep, dir))
	if e != api.OK || !handTable(s.T) || !disk.Right(s.D) {
		t.Fatalf("behind a crash with %v, %v: %s, error %d", keep, dir, tell(s), e)
	}
	for _, k := range [][]int{nil, {99, 99}} {
		opens(t, disk.Crash(s.D, k, !dir), s, api.OK)
	}
	return s.T
}

// survives: is the lease there after a crash behind n changes of so many? The name of the journal is durable ahead of them if they are two.
func survives(n, changes, keep, frame int, dir bool) bool {
	if n == changes {
		return true
	}
	named := dir || changes == 2
	return named && (n > 1 || n == 1 && keep >= frame)
}

// outlives holds the table of a store that is opened behind a crash after a Put, with every keeping and both values of dir, against what it must be.
func outlives(t *testing.T, s Store, l api.Lease, fuel, changes int) {
	t.Helper()
	size := len(frames(l))
	with, _ := handSet(s.T, l)
	after, n, whole := Put(s, l, fuel)
	if wantN := min(uint(fuel), uint(changes)); uint(n) != wantN || whole != (n == changes) {
		t.Fatalf("Put with fuel %d, %s: %d, %v, there are %d changes", fuel, tell(s), n, whole, changes)
	}
	for keep := -1; keep <= size+1; keep++ {
		for _, dir := range []bool{false, true} {
			want := s.T
			if survives(n, changes, keep, size, dir) {
				want = with
			}
			got := again(t, after.D, slices.Repeat([]int{keep}, api.MaxFiles), dir)
			if !slices.Equal(got, want) {
				t.Fatalf("Put with fuel %d, %s, a crash with %d, %v: %v, not %v", fuel, tell(s), keep, dir, got, want)
			}
			// P20.4 itself.
			if whole && !slices.Equal(got, after.T) || !slices.Equal(got, s.T) && !slices.Equal(got, with) {
				t.Fatalf("Put with fuel %d said %v: %v", fuel, whole, got)
			}
		}
	}
	if got, e := Open(after.D); e != api.OK || n > 0 && !slices.Equal(got.T, with) || n == 0 && !slices.Equal(got.T, s.T) {
		t.Fatalf("Put with fuel %d, opened again without a crash: %s, error %d", fuel, tell(got), e)
	}
}

func TestPowerLoss(t *testing.T) { // P20.4: each fuel, each keeping, and the directory kept and not
	for _, had := range [][]api.Lease{nil, {leaseA}, {leaseB, leaseC, leaseA}} {
		for _, s := range opened(t, had...) {
			changes := 3
			if slices.Contains(disk.Names(s.D), "j") {
				changes = 2
			}
			for _, l := range []api.Lease{leaseA, laterA, laterB, shortest} {
				for fuel := -2; fuel <= changes+1; fuel++ {
					outlives(t, s, l, fuel, changes)
				}
			}
		}
	}
}

func TestPowerLossOfLong(t *testing.T) { // P20.4: a frame of two length bytes that are not zero, and a table that becomes full
	for _, had := range [][]api.Lease{{leaseA}, row(63), append(row(63), longest)} {
		s := opened(t, had...)[0]
		for fuel := -1; fuel <= 3; fuel++ {
			outlives(t, s, longest, fuel, 2)
		}
	}
}

func TestPowerLossOfNothing(t *testing.T) { // P20.4: a Put that can't be made loses nothing
	full := opened(t, row(64)...)[0]
	crowded := opened(t, filling(api.MaxBytes-20)...)[0]
	for _, x := range []struct {
		s Store
		l api.Lease
	}{{full, leaseC}, {full, api.Lease{}}, {crowded, leaseA}, {Store{}, api.Lease{}}} {
		for fuel := -1; fuel <= 3; fuel++ {
			after, n, whole := Put(x.s, x.l, fuel)
			if n != 0 || whole {
				t.Fatalf("%v: %d, %v", x.l, n, whole)
			}
			for _, dir := range []bool{false, true} {
				if got := again(t, after.D, []int{9}, dir); !slices.Equal(got, x.s.T) {
					t.Errorf("%v: %v", x.l, got)
				}
			}
		}
	}
}

func TestPowerLossOfClean(t *testing.T) { // P20.5: each fuel, each keeping, and the directory kept and not
	for _, had := range [][]api.Lease{{leaseA, laterA}, {leaseB, longest, leaseA, laterB, shortest, laterA}} {
		for _, s := range opened(t, had...) {
			for fuel := -1; fuel <= 5; fuel++ {
				after, n, whole := Clean(s, 1, fuel)
				if wantN := min(uint(fuel), 4); uint(n) != wantN || whole != (n == 4) || !slices.Equal(after.T, s.T) {
					t.Fatalf("Clean with fuel %d, %s: %d, %v", fuel, tell(s), n, whole)
				}
				for _, keep := range keepings(40) {
					for _, dir := range []bool{false, true} {
						if got := again(t, after.D, keep, dir); !slices.Equal(got, s.T) {
							t.Fatalf("Clean with fuel %d, a crash with %v, %v: %v, not %v", fuel, keep, dir, got, s.T)
						}
					}
				}
				o, e := Open(after.D)
				l, _, f := journal.Read(o.D)
				if e != api.OK || f != api.OK || !slices.Equal(o.T, s.T) || n >= 3 && !slices.Equal(l, s.T) || n < 3 && !slices.Equal(l, had) {
					t.Fatalf("Clean with fuel %d, opened again without a crash: %v, %d leases, errors %d and %d", fuel, o.T, len(l), e, f)
				}
			}
		}
	}
}

func TestPowerLossOfCleanInTheWay(t *testing.T) { // P20.5: with an earlier draft, with files beside the journal, and on disks that were never synced
	had := []api.Lease{leaseA, leaseC, laterA, leaseB}
	for _, d := range append(settled(frames(had...)), fullDisks(frames(had...))...) {
		if !slices.Contains(disk.Names(d), "j") {
			continue
		}
		s := Store{T: handLast(had), D: d}
		for fuel := -1; fuel <= 6; fuel++ {
			after, _, _ := Clean(s, 0, fuel)
			for _, keep := range keepings(30) {
				for _, dir := range []bool{false, true} {
					if got := again(t, after.D, keep, dir); !slices.Equal(got, s.T) {
						t.Fatalf("Clean with fuel %d, %s, a crash with %v, %v: %v", fuel, tell(s), keep, dir, got)
					}
				}
			}
		}
	}
}

func TestStored(t *testing.T) { // P20.6: lease upon lease, some for the same address, opened again behind each, with a crash and without
	leases := slices.Concat(someLease, row(30), []api.Lease{leaseA, leaseB, at(12, 900), laterA, at(20, 901)}, row(10), someLease)
	for _, s := range append(opened(t), Store{}) {
		var put []api.Lease
		for i, l := range leases {
			changes := 2
			if i == 0 && !slices.Contains(disk.Names(s.D), "j") {
				changes = 3
			}
			next, n, whole := Put(s, l, -1)
			put = append(put, l)
			if n != changes || !whole || !slices.Equal(next.T, handLast(put)) {
				t.Fatalf("lease %d: %d, %v, %v", i, n, whole, next.T)
			}
			o, e := Open(next.D)
			if e != api.OK || !slices.Equal(o.T, next.T) || !slices.Equal(again(t, next.D, nil, i%2 == 0), next.T) {
				t.Fatalf("lease %d: opened again %v, error %d, not %v", i, o.T, e, next.T)
			}
			if s = next; i%7 == 0 {
				s = o
			}
		}
	}
}

func TestStoredUntilFull(t *testing.T) { // P20.6: until the table and the journal have no more room
	s := Store{}
	var put []api.Lease
	for addr := range 70 {
		next, n, whole := Put(s, at(addr, addr), -1)
		if whole != (addr < 64) || whole == (n == 0) {
			t.Fatalf("lease %d: %d, %v", addr, n, whole)
		}
		if whole {
			put = append(put, at(addr, addr))
		}
		s = next
		opens(t, s.D, s, api.OK)
	}
	for i := 0; len(frames(put...))+274 <= api.MaxBytes; i++ {
		l := sized(i%64, 274)
		s, _, _ = Put(s, l, -1)
		put = append(put, l)
	}
	if got, n, whole := Put(s, sized(3, 274), -1); n != 0 || whole || !alike(got, s) {
		t.Errorf("into a full journal: %d, %v", n, whole)
	}
	opens(t, s.D, Store{T: handLast(put), D: lasting(frames(put...))}, api.OK)
	// There is room again when the journal is short.
	s, _, whole := Clean(s, 64, -1)
	if !whole || !slices.Equal(s.T, handLast(put)) {
		t.Fatalf("cleaned: %v, %d leases", whole, len(s.T))
	}
	l := sized(3, 273)
	s, n, whole := Put(s, l, -1)
	if n != 2 || !whole {
		t.Errorf("behind the cleaning: %d, %v", n, whole)
	}
	opens(t, s.D, Store{T: handLast(append(put, l)), D: lasting(frames(append(handLast(put), l)...))}, api.OK)
}

func TestCleanedAndOn(t *testing.T) { // P20.5, P20.6: a store that is cleaned and goes on
	for _, s := range append(opened(t), Store{}) {
		if len(s.D.Files) > 18 {
			continue // no room for a journal and a draft
		}
		var put []api.Lease
		for round := range 4 {
			for i := range 9 {
				l := at((i+round)%5, 100*round+i)
				var whole bool
				s, _, whole = Put(s, l, -1)
				put = append(put, l)
				if !whole {
					t.Fatal("Put")
				}
			}
			next, n, whole := Clean(s, 8, -1)
			if n != 4 || !whole || !slices.Equal(next.T, handLast(put)) {
				t.Fatalf("round %d: %d, %v", round, n, whole)
			}
			if l, _, e := journal.Read(next.D); e != api.OK || !slices.Equal(l, handLast(put)) {
				t.Fatalf("round %d: the journal has %v, error %d", round, l, e)
			}
			cleans(t, next, 0, -1, next, 0, true)
			opens(t, next.D, Store{T: handLast(put), D: next.D}, api.OK)
			if got := again(t, next.D, []int{3}, round%2 == 0); !slices.Equal(got, next.T) {
				t.Fatalf("round %d: %v", round, got)
			}
			s = next
		}
	}
}

func TestHistories(t *testing.T) { // P20.4 to P20.6: leases put and journals replaced, with the power lost now and then
	r := rand.New(rand.NewSource(204))
	seen := map[string]int{}
	for range 250 {
		s := Store{}
		for range 40 {
			l := at(r.Intn(12), r.Intn(1000))
			fuel := r.Intn(7) - 2
			with, kind := s.T, "clean"
			var after Store
			var whole bool
			if r.Intn(3) > 0 {
				kind = "put"
				with, _ = handSet(s.T, l)
				after, _, whole = Put(s, l, fuel)
			} else {
				after, _, whole = Clean(s, r.Intn(9), fuel)
			}
			wantT := s.T
			if whole {
				wantT = with
			}
			if !slices.Equal(after.T, wantT) {
				t.Fatalf("%s with fuel %d: %v, not %v", kind, fuel, after.T, wantT)
			}
			if whole && r.Intn(2) == 0 {
				s = after
				continue
			}
			keep := []int{r.Intn(30) - 1, r.Intn(60) - 1}
			o, e := Open(disk.Crash(after.D, keep, r.Intn(2) == 0))
			stored := slices.Equal(o.T, with)
			if e != api.OK || !stored && (whole || !slices.Equal(o.T, s.T)) {
				t.Fatalf("%s with fuel %d said %v: opened again %v, error %d; there were %v", kind, fuel, whole, o.T, e, s.T)
			}
			seen[fmt.Sprint(kind, " ", whole, " ", stored)]++
			s = o
		}
	}
	for _, k := range []string{"put true true", "put false true", "put false false", "clean true true", "clean false true"} {
		if seen[k] < 100 {
			t.Errorf("too few with %s: %v", k, seen)
		}
	}
}
