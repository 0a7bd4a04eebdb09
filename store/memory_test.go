package store

import (
	"fmt"
	"slices"
	"testing"

	"boarder/api"
	"boarder/disk"
)

// roomy answers a copy of a list with spare capacity that is filled.
func roomy[T any](l []T, spare T) []T {
	big := append(slices.Clone(l), slices.Repeat([]T{spare}, 40)...)
	return big[:len(l)]
}

// roomyDisk answers a copy of a disk with spare capacity everywhere.
func roomyDisk(d disk.Disk) disk.Disk {
	c := disk.Disk{Files: roomy(d.Files, disk.File{Data: []byte("spare"), Safe: 2}), Now: roomy(d.Now, disk.Entry{Name: "spare"}), Kept: roomy(d.Kept, disk.Entry{Name: "spare"})}
	for i, f := range d.Files {
		c.Files[i].Data = roomy(f.Data, 77)
	}
	return c
}

// roomyStore answers a copy of a store with spare capacity everywhere.
func roomyStore(s Store) Store {
	return Store{T: roomy(s.T, at(99, 99)), D: roomyDisk(s.D)}
}

// all answers a list with what stands in its spare capacity.
func all[T any](l []T) []T {
	return l[:cap(l)]
}

// fill overwrites a list, and its spare capacity.
func fill[T any](l []T, with T) {
	for i := range all(l) {
		all(l)[i] = with
	}
}

// spoil overwrites all of a store.
func spoil(s Store) {
	for _, f := range s.D.Files {
		fill(f.Data, 99)
	}
	fill(s.T, api.Lease{Key: "spoilt"})
	fill(s.D.Files, disk.File{Safe: 98})
	fill(s.D.Now, disk.Entry{Name: "spoilt"})
	fill(s.D.Kept, disk.Entry{Name: "spoilt"})
}

// dump tells all of a store, and of its spare capacity.
func dump(s Store) string {
	x := fmt.Sprint(len(s.T), all(s.T), len(s.D.Files), len(s.D.Now), len(s.D.Kept), all(s.D.Now), all(s.D.Kept))
	for _, f := range all(s.D.Files) {
		x += fmt.Sprint(len(f.Data), f.Safe, all(f.Data))
	}
	return x
}

// memoryStores answers stores of few bytes: right ones and others, with a table and a disk that belong together and that do not.
func memoryStores() []Store {
	had := []api.Lease{leaseB, leaseA, laterA}
	var all []Store
	for _, d := range slices.Concat(anyDisks(had...), settled(append(frames(leaseA), 0, 9)), wrongDisks()[:12]) {
		for _, l := range [][]api.Lease{nil, handLast(had), {leaseC}, {leaseB, leaseA}, {{Addr: 3}}} {
			all = append(all, Store{T: l, D: d})
		}
	}
	return all
}

// apart holds that a call neither changes nor keeps nor hands on what it was given: call answers a store, and whether it is another one than that.
func apart(t *testing.T, given Store, call func(Store) (Store, bool)) {
	t.Helper()
	s := roomyStore(given)
	before := dump(s)
	got, other := call(s)
	want, _ := call(given)
	if dump(s) != before || !alike(got, want) {
		t.Fatalf("%s: changed, or hangs on spare capacity: %s", tell(given), tell(got))
	}
	if !other {
		return // it may share its memory
	}
	second, _ := call(s)
	spoil(got)
	if dump(s) != before {
		t.Fatalf("%s: shared with the answer", tell(given))
	}
	if !alike(second, want) {
		t.Fatalf("%s: two answers share their memory", tell(given))
	}
	spoil(s)
	if !alike(second, want) {
		t.Fatalf("%s: kept", tell(given))
	}
}

func TestMemoryOfOpen(t *testing.T) { // P0, R3
	for _, s := range memoryStores() {
		apart(t, s, func(s Store) (Store, bool) {
			got, _ := Open(s.D)
			return got, true
		})
	}
}

func TestMemoryOfPut(t *testing.T) { // P0, R3: with each fuel
	for _, s := range memoryStores() {
		for _, l := range []api.Lease{leaseA, laterA, shortest, {Addr: 1}} {
			for fuel := -1; fuel <= 3; fuel++ {
				apart(t, s, func(s Store) (Store, bool) {
					got, n, _ := Put(s, l, fuel)
					return got, n > 0
				})
			}
		}
	}
}

func TestMemoryOfClean(t *testing.T) { // P0, R3: with each fuel
	for _, s := range memoryStores() {
		for many := 1; many <= 3; many++ {
			for fuel := -1; fuel <= 6; fuel++ {
				apart(t, s, func(s Store) (Store, bool) {
					got, n, _ := Clean(s, many, fuel)
					return got, n > 0
				})
			}
		}
	}
}

func TestListsApart(t *testing.T) { // R3: the lists of one answer share no memory
	opened, _ := Open(settled(frames(leaseA, laterA))[0])
	put, _, _ := Put(Store{}, leaseA, -1)
	cleaned, _, _ := Clean(opened, 1, -1)
	for i, s := range []Store{opened, put, cleaned} {
		kept := slices.Clone(s.D.Kept)
		fill(s.D.Now, disk.Entry{Name: "now"})
		if !slices.Equal(s.D.Kept, kept) {
			t.Errorf("store %d: the directories share their entries", i)
		}
	}
}

func TestWithoutLimit(t *testing.T) { // P20.2, P20.3: every negative fuel is none, and answers what the greatest one does
	s := Store{T: []api.Lease{laterA}, D: settled(frames(leaseA, laterA))[1]}
	for _, fuel := range fuels() {
		if fuel >= 0 {
			continue
		}
		want, n, whole := Put(s, leaseB, 9)
		puts(t, s, leaseB, fuel, want, n, whole)
		want, n, whole = Clean(s, 1, 9)
		cleans(t, s, 1, fuel, want, n, whole)
	}
}
