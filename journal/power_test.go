package journal

import (
	"fmt"
	"math/rand"
	"slices"
	"testing"

	"boarder/api"
	"boarder/disk"
)

// opened answers disks as they are when their journal has been opened, with these leases in it.
func opened(t *testing.T, l ...api.Lease) []disk.Disk {
	t.Helper()
	given := places(frames(l...))
	if len(l) == 0 {
		given = append(given, bare()...)
	}
	var ds []disk.Disk
	for _, d := range given {
		o, e := Open(d)
		if e != api.OK {
			t.Fatal(e)
		}
		ds = append(ds, o)
	}
	return ds
}

// hasJournal: is there a journal now?
func hasJournal(d disk.Disk) bool {
	return slices.Contains(disk.Names(d), "j")
}

// left answers the bytes of a journal after a crash behind n changes, and whether there is one: had are those that were durable ahead of the changes.
func left(had, frame []byte, was bool, n, keep int, dir bool) ([]byte, bool) {
	switch {
	case n == 0:
		return had, was
	case !was && n < 3 && !dir:
		return nil, false
	case n == 1:
		return slices.Concat(had, frame[:min(keep, len(frame))]), true
	}
	return slices.Concat(had, frame), true
}

// outlives holds what Read and Open tell after a crash behind n changes of Add against what they must.
func outlives(t *testing.T, d disk.Disk, had []api.Lease, l api.Lease, changes []Change, n, keep int, dir bool) {
	t.Helper()
	half, done := Do(d, changes, n)
	after := disk.Crash(half, slices.Repeat([]int{keep}, api.MaxFiles), dir)
	b, there := left(frames(had...), frames(l), hasJournal(d), n, keep, dir)
	leases, whole, e := handRead(b)
	reads(t, after, leases, whole, e)
	o, f := Open(after)
	reads(t, o, leases, whole, api.OK)
	if done != n || f != api.OK || hasJournal(o) != there || !disk.Right(o) {
		t.Fatalf("Open after %d changes and a crash with %d, %v: %d, error %d", n, keep, dir, done, f)
	}
	// P10.5 itself.
	and := append(slices.Clone(had), l)
	if !slices.Equal(leases, and) && (n == len(changes) || !slices.Equal(leases, had)) {
		t.Fatalf("%d leases after %d changes and a crash with %d, %v", len(leases), n, keep, dir)
	}
	again := disk.Crash(o, nil, !dir)
	reads(t, again, leases, whole, api.OK)
}

func TestPowerLoss(t *testing.T) { // P10.5: every number of changes, every keeping, and both values of dir
	for _, had := range [][]api.Lease{nil, {leaseA}, {leaseB, longest, leaseA}} {
		for _, l := range []api.Lease{leaseA, leaseC, shortest} {
			for i, d := range opened(t, had...) {
				changes, e := Add(d, l)
				want := 3
				if hasJournal(d) {
					want = 2
				}
				if e != api.OK || len(changes) != want {
					t.Fatalf("Add to disk %d: %d changes, error %d", i, len(changes), e)
				}
				for n := range len(changes) + 1 {
					for keep := -1; keep <= len(frames(l))+1; keep++ {
						outlives(t, d, had, l, changes, n, max(keep, 0), false)
						outlives(t, d, had, l, changes, n, max(keep, 0), true)
					}
				}
			}
		}
	}
}

func TestPowerLossOfLong(t *testing.T) { // P10.5: a frame of two length bytes that are not zero
	for _, had := range [][]api.Lease{nil, {leaseA}} {
		d := opened(t, had...)[0]
		changes, _ := Add(d, longest)
		for n := range len(changes) + 1 {
			for keep := range len(frames(longest)) + 2 {
				outlives(t, d, had, longest, changes, n, keep, false)
				outlives(t, d, had, longest, changes, n, keep, true)
			}
		}
	}
}

func TestPowerLossAnywhere(t *testing.T) { // P10.5: when all changes were performed, the lease is there, however little of the disk was safe ahead of them
	had := []api.Lease{leaseB, leaseC}
	for _, d := range append(places(frames(had...)), bare()...) {
		want := []api.Lease{leaseA}
		if hasJournal(d) {
			want = append(slices.Clone(had), leaseA)
		}
		changes, e := Add(d, leaseA)
		after, n := Do(d, changes, len(changes))
		if e != api.OK || n != len(changes) {
			t.Fatalf("%d of %d changes, error %d", n, len(changes), e)
		}
		reads(t, after, want, len(frames(want...)), api.OK)
		lasting(t, after)
	}
}

func TestSyncsAreNeeded(t *testing.T) { // P10.5: what a crash takes where one of the changes is left out
	changes := handChanges(leaseA, true)
	for i := range changes {
		d, _ := Do(disk.Disk{}, slices.Delete(slices.Clone(changes), i, i+1), 9)
		reads(t, disk.Crash(d, nil, false), nil, 0, api.OK)
	}
}

func TestPowerHistories(t *testing.T) { // P10.5, P10.6: lease upon lease, with the power lost now and then
	r := rand.New(rand.NewSource(105))
	seen := map[string]int{}
	for range 150 {
		d := disk.Disk{}
		var had []api.Lease
		for range 20 {
			l := someLease[r.Intn(len(someLease))]
			changes, e := Add(d, l)
			fuel := r.Intn(4)
			half, n := Do(d, changes, fuel)
			if e != api.OK || n != min(fuel, len(changes)) {
				t.Fatalf("%d of %d changes, error %d", n, len(changes), e)
			}
			d = half
			if n == len(changes) && r.Intn(2) == 0 {
				had = append(had, l)
				reads(t, d, had, len(frames(had...)), api.OK)
				continue
			}
			keep := make([]int, r.Intn(3))
			for i := range keep {
				keep[i] = r.Intn(30) - 1
			}
			o, f := Open(disk.Crash(d, keep, r.Intn(2) == 0))
			leases, _, g := Read(o)
			stored := slices.Equal(leases, append(slices.Clone(had), l))
			if f != api.OK || g != api.OK || !stored && (n == len(changes) || !slices.Equal(leases, had)) {
				t.Fatalf("after %d changes: %d leases, there were %d, errors %d and %d", n, len(leases), len(had), f, g)
			}
			seen[fmt.Sprint(n, " changes, stored ", stored)]++
			d, had = o, leases
		}
	}
	for _, k := range []string{"0 changes, stored false", "1 changes, stored false", "1 changes, stored true", "2 changes, stored true", "2 changes, stored false", "3 changes, stored true"} {
		if seen[k] < 20 {
			t.Errorf("too few with %s: %v", k, seen)
		}
	}
}

func TestInOrder(t *testing.T) { // P10.6: one by one, until there is no room
	r := rand.New(rand.NewSource(106))
	for _, d := range append(opened(t), disk.Disk{}) {
		var had []api.Lease
		size := 0
		full := false
		for !full && len(had) < api.MaxBytes {
			l := someLease[r.Intn(len(someLease))]
			if r.Intn(2) == 0 {
				l.Addr, l.Expiry = r.Intn(1<<32), r.Intn(1<<50)
			}
			changes, e := Add(d, l)
			next, n := Do(d, changes, 3)
			full = size+len(frames(l)) > api.MaxBytes
			if e != api.OK || full && n != 0 || !full && n != len(changes) {
				t.Fatalf("lease %d: %d of %d changes, error %d", len(had), n, len(changes), e)
			}
			if full {
				continue
			}
			d, had, size = next, append(had, l), size+len(frames(l))
			if len(had)%9 < 3 {
				reads(t, d, had, size, api.OK)
			}
		}
		reads(t, d, had, size, api.OK)
		lasting(t, d)
		if len(had) < 100 {
			t.Errorf("only %d leases", len(had))
		}
	}
}
