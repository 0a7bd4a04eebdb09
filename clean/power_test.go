package clean

import (
	"fmt"
	"math/rand"
	"slices"
	"testing"

	"boarder/api"
	"boarder/disk"
	"boarder/journal"
)

// others answers the names of a disk but the journal's and the draft's.
func others(d disk.Disk, dir bool) []string {
	var l []string
	from := d.Kept
	if dir {
		from = d.Now
	}
	for _, e := range from {
		if e.Name != "j" && e.Name != "k" {
			l = append(l, e.Name)
		}
	}
	return l
}

// left answers the leases that the journal has after a crash behind n changes, and whether there is a journal.
func left(had []api.Lease, was bool, l []api.Lease, changes []journal.Change, n int, dir bool) ([]api.Lease, bool) {
	renamed := n >= len(changes)-1
	if n == len(changes) || renamed && dir {
		return l, true
	}
	return had, was
}

// outlives holds what Read and Open tell after a crash behind n of the changes against what they must.
func outlives(t *testing.T, d disk.Disk, had, l []api.Lease, changes []journal.Change, n int, keep []int, dir bool) {
	t.Helper()
	half, done := journal.Do(d, changes, n)
	after := disk.Crash(half, keep, dir)
	want, there := left(had, has(d, "j"), l, changes, n, dir)
	// Neither journal is ever seen torn: the names of both have whole files alone.
	reads(t, after, want)
	o, e := journal.Open(after)
	reads(t, o, want)
	reads(t, disk.Crash(o, nil, !dir), want)
	rest := others(d, dir || n == len(changes))
	if there {
		rest = append(rest, "j")
		slices.Sort(rest)
	}
	if done != n || e != api.OK || !slices.Equal(disk.Names(o), rest) {
		t.Fatalf("%s, %d changes, a crash with %v, %v: %d, error %d, %v, not %v", tell(d), n, keep, dir, done, e, disk.Names(o), rest)
	}
}

// keepings answers how much of each file may be kept: of all files alike, of the draft alone (its name is one of the first), and of others.
func keepings(size int) [][]int {
	all := [][]int{nil}
	for keep := -1; keep <= size+1; keep++ {
		all = append(all, slices.Repeat([]int{keep}, api.MaxFiles))
	}
	for i := range 4 {
		for _, keep := range []int{1, size / 2, size - 1, api.MaxBytes} {
			one := make([]int, i+1)
			one[i] = keep
			all = append(all, one)
		}
	}
	return all
}

// everyCrash holds P11.3 of a disk: behind every number of changes, with all these keepings, and with both values of dir.
func everyCrash(t *testing.T, d disk.Disk, had, l []api.Lease, keepings [][]int) {
	t.Helper()
	changes, e := Changes(d, l)
	want := 4
	if has(d, "k") {
		want = 5
	}
	if e != api.OK || len(changes) != want {
		t.Fatalf("%s: %d changes, error %d", tell(d), len(changes), e)
	}
	for n := range len(changes) + 1 {
		for _, keep := range keepings {
			outlives(t, d, had, l, changes, n, keep, false)
			outlives(t, d, had, l, changes, n, keep, true)
		}
	}
}

func TestPowerLoss(t *testing.T) { // P11.3: every number of changes, every keeping, and both values of dir
	for _, l := range [][]api.Lease{nil, {leaseB}, {leaseA, leaseC}} {
		all := keepings(len(handFrames(l...)))
		for _, had := range [][]api.Lease{nil, {leaseA}, {leaseA, leaseC, laterA}} {
			for _, d := range settled(handFrames(had...)) {
				everyCrash(t, d, had, l, all)
			}
		}
		for _, d := range without() {
			everyCrash(t, d, nil, l, all)
		}
	}
}

func TestPowerLossOfLong(t *testing.T) { // P11.3: frames of two length bytes, and as many bytes as a file has room for
	for _, l := range [][]api.Lease{{longest, shortest}, full(api.MaxBytes, 274)} {
		size := len(handFrames(l...))
		some := [][]int{nil}
		for _, keep := range []int{0, 1, 5, 6, 256, 273, 274, 275, size / 2, size - 1, size} {
			some = append(some, slices.Repeat([]int{keep}, api.MaxFiles))
		}
		for _, had := range [][]api.Lease{nil, {leaseA, longest, laterA}} {
			for _, d := range settled(handFrames(had...))[:4] {
				everyCrash(t, d, had, l, some)
			}
		}
	}
}

func TestPowerLossOfLatest(t *testing.T) { // P11.3, with the latest leases in the place of all: none of them is lost
	had := slices.Concat(someLease, []api.Lease{leaseB, leaseA}, someLease)
	for _, d := range settled(handFrames(had...)) {
		changes, e := Changes(d, Last(had))
		if e != api.OK {
			t.Fatal(e)
		}
		for n := range len(changes) + 1 {
			for _, keep := range keepings(60) {
				for _, dir := range []bool{false, true} {
					half, _ := journal.Do(d, changes, n)
					o, e := journal.Open(disk.Crash(half, keep, dir))
					l, _, f := journal.Read(o)
					if e != api.OK || f != api.OK || !slices.Equal(handLast(l), handLast(had)) {
						t.Fatalf("%d changes, a crash with %v, %v: %d leases, errors %d and %d", n, keep, dir, len(l), e, f)
					}
				}
			}
		}
	}
}

func TestPowerLossWithoutRoom(t *testing.T) { // P11.3: where a draft has no room on the disk, no journal is replaced
	had := []api.Lease{leaseA, laterA}
	// The old draft, which stays in Kept, takes the room of the new one.
	noRoom := fullDisk(handFrames(had...))
	noRoom.Now, noRoom.Kept = append(names("j0 k1"), numbered(2, 18)...), names("j0 k1")
	for _, d := range []disk.Disk{fullDisk(handFrames(had...)), noRoom} {
		if !disk.Right(d) {
			t.Fatalf("not valid: %s", tell(d))
		}
		changes, e := Changes(d, []api.Lease{laterA})
		after, n := journal.Do(d, changes, 9)
		if e != api.OK || n != len(changes)-4 {
			t.Fatalf("%d of %d changes, error %d", n, len(changes), e)
		}
		for _, dir := range []bool{false, true} {
			o, e := journal.Open(disk.Crash(after, nil, dir))
			reads(t, o, had)
			if e != api.OK {
				t.Errorf("Open: error %d", e)
			}
		}
	}
}

func TestPowerLossAnywhere(t *testing.T) { // P11.3: when all changes were performed, the leases are there, whatever the journal was
	l := []api.Lease{leaseB, leaseA, leaseB}
	for _, d := range anyDisks() {
		if len(d.Files) == api.MaxFiles && !has(d, "k") {
			continue // no room for a draft
		}
		changes, e := Changes(d, l)
		after, n := journal.Do(d, changes, len(changes))
		if e != api.OK || n != len(changes) || has(after, "k") {
			t.Fatalf("%s: %d of %d changes, error %d", tell(d), n, len(changes), e)
		}
		reads(t, after, l)
		for _, keep := range keepings(30) {
			reads(t, disk.Crash(after, keep, false), l)
			reads(t, disk.Crash(after, keep, true), l)
		}
	}
}

func TestPowerLossOfFaulty(t *testing.T) { // P11.3: a torn journal opens with the leases ahead of its end, a corrupt one not, until it is replaced
	had, l := []api.Lease{leaseA, leaseC}, []api.Lease{leaseB}
	for _, end := range slices.Concat(tornEnds(), corruptEnds()) {
		d := settled(slices.Concat(handFrames(had...), end))[1]
		_, unopened := journal.Open(d)
		changes, e := Changes(d, l)
		if e != api.OK || len(changes) != 5 {
			t.Fatalf("%d changes, error %d", len(changes), e)
		}
		for n := range len(changes) + 1 {
			for _, dir := range []bool{false, true} {
				half, _ := journal.Do(d, changes, n)
				o, e := journal.Open(disk.Crash(half, []int{1, 1}, dir))
				replaced := n == 5 || n == 4 && dir
				switch {
				case replaced:
					reads(t, o, l)
				case unopened == api.OK:
					reads(t, o, had)
				}
				if e != api.OK && (replaced || e != unopened) {
					t.Errorf("%x at the end, %d changes, %v: error %d", end, n, dir, e)
				}
			}
		}
	}
}

func TestEachChangeIsNeeded(t *testing.T) { // P11.3: what a crash leaves where one of the changes is left out
	l := []api.Lease{leaseB}
	d := settled(handFrames(leaseA))[1]
	changes, _ := Changes(d, l)
	for i := range changes {
		less, _ := journal.Do(d, slices.Delete(slices.Clone(changes), i, i+1), 9)
		got, _, e := journal.Read(disk.Crash(less, nil, false))
		if e == api.OK && slices.Equal(got, l) {
			t.Errorf("without change %d: %v", i, got)
		}
	}
}

func TestPowerHistories(t *testing.T) { // P11.3, P11.4: leases added and journals replaced, with the power lost now and then
	r := rand.New(rand.NewSource(115))
	seen := map[string]int{}
	for range 200 {
		d := disk.Disk{}
		var had []api.Lease
		for range 20 {
			l := append(slices.Clone(had), at(r.Intn(4), r.Intn(1000)))
			changes, e := journal.Add(d, l[len(l)-1])
			if r.Intn(2) == 0 {
				l = Last(had)
				changes, e = Changes(d, l)
			}
			fuel := r.Intn(len(changes) + 1)
			half, n := journal.Do(d, changes, fuel)
			if e != api.OK || n != fuel {
				t.Fatalf("%d of %d changes, error %d", n, len(changes), e)
			}
			keep := []int{r.Intn(60) - 1, r.Intn(60) - 1}
			o, f := journal.Open(disk.Crash(half, keep, r.Intn(2) == 0))
			got, _, g := journal.Read(o)
			stored := slices.Equal(got, l)
			if f != api.OK || g != api.OK || !stored && (n == len(changes) || !slices.Equal(got, had)) {
				t.Fatalf("after %d of %d changes: %d leases, there were %d, errors %d and %d", n, len(changes), len(got), len(had), f, g)
			}
			seen[fmt.Sprint(len(l) > len(had), stored)]++
			d, had = o, got
		}
	}
	for _, k := range []string{"true true", "true false", "false true", "false false"} {
		if seen[k] < 100 {
			t.Errorf("too few with %s: %v", k, seen)
		}
	}
}
