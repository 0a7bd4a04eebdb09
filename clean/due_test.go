package clean

import (
	"math"
	"math/rand"
	"slices"
	"testing"

	"boarder/api"
	"boarder/disk"
	"boarder/journal"
)

// numbersAround answers numbers below 0, and those around n.
func numbersAround(n int) []int {
	return []int{math.MinInt, -1 << 32, -n - 1, -n, -2, -1, 0, 1, 2, n - 2, n - 1, n, n + 1, n + 2, n + 256, n + 1<<32, math.MaxInt}
}

// due: does Due answer just this?
func due(t *testing.T, d disk.Disk, many int, want bool) {
	t.Helper()
	if got := Due(d, many); got != want {
		t.Errorf("Due with %d, %s: %v", many, tell(d), got)
	}
}

// never: is it not time, with any number?
func never(t *testing.T, d disk.Disk, n int) {
	t.Helper()
	for _, many := range numbersAround(n) {
		due(t, d, many, false)
	}
}

func TestDueWords(t *testing.T) { // P11.2: written out by hand
	twice := settled(handFrames(leaseA, leaseB, leaseA))[0]
	for many, want := range map[int]bool{math.MinInt: true, -1: true, 0: true, 1: true, 2: true, 3: false, 4: false, math.MaxInt: false} {
		due(t, twice, many, want)
	}
	once := settled(handFrames(leaseB, leaseA, leaseC))[0]
	for _, many := range []int{math.MinInt, -1, 0, 1, 2, 3, 4, math.MaxInt} {
		due(t, once, many, false)
	}
	same := settled(handFrames(leaseA, laterA))[0]
	due(t, same, 1, true)
	due(t, same, 2, false)
	due(t, settled(handFrames(leaseA))[0], -1, false)
	due(t, settled(nil)[0], -1, false)
	due(t, disk.Disk{}, -1, false)
}

func TestDue(t *testing.T) { // P11.2, R4: with each number of leases, some of which aren't the latest ones, or all are
	one := slices.Repeat([]api.Lease{leaseA}, 30)
	own := make([]api.Lease, 30)
	for i := range own {
		own[i] = at(1000-i, i)
	}
	for n := range 31 {
		for _, l := range [][]api.Lease{one[:n], own[:n], slices.Concat(own[:n], own[n/2:n]), slices.Concat(own[:n], own[:min(n, 1)])} {
			older := len(l) > len(handLast(l))
			for _, d := range append(settled(handFrames(l...)), unsettled(handFrames(l...))...) {
				for _, many := range numbersAround(len(l)) {
					due(t, d, many, older && len(l) > many)
					due(t, d, many, older && len(l) > many)
				}
			}
		}
	}
}

func TestDueNothing(t *testing.T) { // P11.2: an empty journal, and none
	for _, d := range slices.Concat(settled(nil), unsettled(nil), without(), lost()) {
		never(t, d, 0)
		never(t, d, 2)
	}
}

func TestDueFaulty(t *testing.T) { // P11.2: a torn journal and a corrupt one, and a frame that holds no lease
	noLease := unhex("0001d202ef8d00")
	for _, l := range [][]api.Lease{nil, {leaseA}, {leaseA, laterA}, slices.Repeat(someLease, 5)} {
		for _, end := range slices.Concat(tornEnds(), corruptEnds(), [][]byte{noLease}) {
			for _, d := range append(settled(slices.Concat(handFrames(l...), end)), unsettled(slices.Concat(handFrames(l...), end))...) {
				never(t, d, len(l))
			}
		}
		for _, end := range append(corruptEnds(), noLease) {
			never(t, settled(slices.Concat(end, handFrames(l...), handFrames(l...)))[0], 2*len(l))
		}
	}
}

func TestDueOfTornEnd(t *testing.T) { // P11.2: a journal that ends anywhere
	b := handFrames(leaseA, laterA, leaseB, leaseA)
	whole := map[int]int{len(handFrames(leaseA)): 1, len(handFrames(leaseA, laterA)): 2, len(handFrames(leaseA, laterA, leaseB)): 3, len(b): 4}
	for n := range len(b) + 1 {
		for _, many := range numbersAround(3) {
			due(t, settled(b[:n])[0], many, whole[n] > 1 && whole[n] > many)
		}
	}
}

func TestDueWrongDisk(t *testing.T) { // P11.2, P0: as on the zero disk
	for _, d := range wrongDisks() {
		never(t, d, 2)
	}
}

func TestDueRandom(t *testing.T) { // P11.2
	r := rand.New(rand.NewSource(114))
	seen := map[bool]int{}
	for range 3000 {
		l := make([]api.Lease, r.Intn(12))
		for i := range l {
			l[i] = at(r.Intn(1<<r.Intn(9)), i)
		}
		ds := settled(handFrames(l...))
		many := r.Intn(14) - 2
		want := len(l) > many && len(l) > len(handLast(l))
		seen[want]++
		due(t, ds[r.Intn(len(ds))], many, want)
	}
	if seen[true] < 500 || seen[false] < 500 {
		t.Errorf("too few of one kind: %v", seen)
	}
}

func TestNotDueAgain(t *testing.T) { // P11.2, P11.4: a journal of latest leases has none of the others
	for _, l := range everyList(5, 4, 1, 9) {
		for _, d := range []disk.Disk{settled(handFrames(l...))[0], settled(handFrames(l...))[1]} {
			c, e := Changes(d, Last(l))
			after, n := journal.Do(d, c, len(c))
			if e != api.OK || n != len(c) {
				t.Fatalf("%d of %d changes, error %d", n, len(c), e)
			}
			due(t, d, -1, len(l) > len(handLast(l)))
			due(t, after, -1, false)
			reads(t, after, handLast(l))
		}
	}
}
