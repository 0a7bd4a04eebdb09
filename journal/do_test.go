package journal

import (
	"math"
	"math/rand"
	"slices"
	"strings"
	"testing"

	"boarder/api"
	"boarder/disk"
)

// handOne answers what the chapter's words say of one change.
func handOne(d disk.Disk, c Change) (disk.Disk, api.Errno) {
	switch c.Kind {
	case 1:
		return disk.Append(d, c.Name, c.B)
	case 2:
		return disk.Sync(d, c.Name)
	case 3:
		return disk.Rename(d, c.Name, c.To)
	case 4:
		return disk.Remove(d, c.Name)
	case 5:
		return disk.SyncDir(d), api.OK
	}
	return d, api.ErrArg
}

// does: does Do answer just this?
func does(t *testing.T, d disk.Disk, l []Change, fuel int, want disk.Disk, wantN int) {
	t.Helper()
	if got, n := Do(d, l, fuel); !same(got, want) || n != wantN || !disk.Right(got) {
		t.Errorf("Do with the fuel %d of %d changes: %d, %s, not %d, %s", fuel, len(l), n, tell(got), wantN, tell(want))
	}
}

// history is changes of each kind, on the zero disk, without an error; and the disk after each number of them.
func history() ([]Change, []disk.Disk) {
	hay, haywain := []byte("hay"), []byte("haywain")
	return []Change{
		{Kind: 1, Name: "a", B: hay},
		{Kind: 2, Name: "a"},
		{Kind: 5},
		{Kind: 1, Name: "a", B: []byte("wain")},
		{Kind: 3, Name: "a", To: "b"},
		{Kind: 1, Name: "c"},
		{Kind: 5},
		{Kind: 4, Name: "b"},
	}, []disk.Disk{
		{},
		{Files: []disk.File{{Data: hay}}, Now: names("a0")},
		{Files: []disk.File{{Data: hay, Safe: 3}}, Now: names("a0")},
		{Files: []disk.File{{Data: hay, Safe: 3}}, Now: names("a0"), Kept: names("a0")},
		{Files: []disk.File{{Data: haywain, Safe: 3}}, Now: names("a0"), Kept: names("a0")},
		{Files: []disk.File{{Data: haywain, Safe: 3}}, Now: names("b0"), Kept: names("a0")},
		{Files: []disk.File{{Data: haywain, Safe: 3}, {}}, Now: names("b0 c1"), Kept: names("a0")},
		{Files: []disk.File{{Data: haywain, Safe: 3}, {}}, Now: names("b0 c1"), Kept: names("b0 c1")},
		{Files: []disk.File{{}, {Data: haywain, Safe: 3}}, Now: names("c0"), Kept: names("b1 c0")},
	}
}

func TestDoFuel(t *testing.T) { // P10.1
	l, after := history()
	for n := range len(l) + 1 {
		for _, fuel := range []int{math.MinInt, -len(l), -n, -1, 0} {
			does(t, disk.Disk{}, l[:n], fuel, disk.Disk{}, 0)
			does(t, after[3], l[:n], fuel, after[3], 0)
		}
		for fuel := range len(l) + 3 {
			does(t, disk.Disk{}, l[:n], fuel, after[min(n, fuel)], min(n, fuel))
		}
		for _, fuel := range []int{len(l) + 100, 1 << 32, math.MaxInt - 1, math.MaxInt} {
			does(t, disk.Disk{}, l[:n], fuel, after[n], n)
		}
	}
}

func TestDoNothing(t *testing.T) { // P10.1: without changes any disk is as it was
	for _, d := range append(places(frames(leaseA)), bare()...) {
		for _, fuel := range []int{math.MinInt, -1, 0, 1, math.MaxInt} {
			does(t, d, nil, fuel, d, 0)
			does(t, d, []Change{}, fuel, d, 0)
		}
	}
}

func TestDoKinds(t *testing.T) { // P10.1: each kind is the call of its own, and other kinds are errors
	given := disk.Disk{Files: []disk.File{text("journal"), text("draft"), text("z")}, Now: names("j0 k1"), Kept: names("j0 z2")}
	kinds := []int{1, 2, 3, 4, 5, 0, 6, -1, -5, 7, 257, 1<<32 + 1, math.MinInt, math.MaxInt}
	wants := []disk.Disk{
		{Files: []disk.File{{Data: []byte("journalhay"), Safe: 3}, text("draft"), text("z")}, Now: names("j0 k1"), Kept: names("j0 z2")},
		{Files: []disk.File{file([]byte("journal"), true), text("draft"), text("z")}, Now: names("j0 k1"), Kept: names("j0 z2")},
		{Files: []disk.File{text("draft"), text("journal"), text("z")}, Now: names("k0 l1"), Kept: names("j1 z2")},
		{Files: []disk.File{text("draft"), text("journal"), text("z")}, Now: names("k0"), Kept: names("j1 z2")},
		{Files: []disk.File{text("journal"), text("draft")}, Now: names("j0 k1"), Kept: names("j0 k1")},
	}
	for i, kind := range kinds {
		c := Change{Kind: kind, Name: "j", To: "l", B: []byte("hay")}
		if i < len(wants) {
			does(t, given, []Change{c}, 1, wants[i], 1)
		} else {
			does(t, given, []Change{c}, 1, given, 0)
		}
		for _, d := range append(places(frames(leaseA)), bare()...) {
			for _, c := range []Change{c, {Kind: kind}, {Kind: kind, Name: "k", To: "j"}, {Kind: kind, Name: "j", To: "j", B: make([]byte, api.MaxBytes)}, {Kind: kind, Name: strings.Repeat("j", 17), To: "k"}} {
				want, e := handOne(d, c)
				wantN := 1
				if e != api.OK {
					want, wantN = d, 0
				}
				does(t, d, []Change{c}, 1, want, wantN)
			}
		}
	}
}

func TestDoErrors(t *testing.T) { // P10.1: the change with the error, and those behind it, are not performed
	wrong := []Change{
		{Kind: 0}, {Kind: 6, Name: "a", To: "b", B: []byte("x")}, {Kind: -1, Name: "a"}, {Kind: math.MinInt, Name: "a"}, {Kind: math.MaxInt, Name: "a"},
		{Kind: 1, B: []byte("x")}, {Kind: 1, Name: strings.Repeat("a", 17)}, {Kind: 1, Name: "a", B: make([]byte, api.MaxBytes+1)}, {Kind: 1, Name: "new", B: make([]byte, api.MaxBytes+1)},
		{Kind: 2}, {Kind: 2, Name: "none"}, {Kind: 3, Name: "none", To: "a"}, {Kind: 3, To: "a"}, {Kind: 4, Name: "none", To: "a"}, {Kind: 4},
	}
	l, after := history()
	for _, c := range wrong {
		for at := range len(l) + 1 {
			spoilt := slices.Insert(slices.Clone(l), at, c)
			for fuel := range len(spoilt) + 2 {
				n := min(at, fuel)
				does(t, disk.Disk{}, spoilt, fuel, after[n], n)
			}
			does(t, disk.Disk{}, spoilt, math.MaxInt, after[at], at)
			does(t, disk.Disk{}, append(spoilt[:at+1:at+1], c), 99, after[at], at)
		}
	}
	// A new name that is none, to a name that is there.
	for at, c := range map[int]Change{1: {Kind: 3, Name: "a"}, 3: {Kind: 3, Name: "a", To: strings.Repeat("b", 17)}} {
		does(t, disk.Disk{}, slices.Insert(slices.Clone(l), at, c), 99, after[at], at)
	}
}

func TestDoRandom(t *testing.T) { // P10.1, R4
	r := rand.New(rand.NewSource(101))
	starts := append(places(frames(leaseA, leaseB)), bare()...)
	complete, stopped := 0, 0
	for range 4000 {
		d := starts[r.Intn(len(starts))]
		l := make([]Change, r.Intn(7))
		for i := range l {
			l[i] = someChange(r)
		}
		fuel := r.Intn(9) - 1
		want, n := d, 0
		for n < len(l) && n < fuel {
			next, e := handOne(want, l[n])
			if e != api.OK {
				stopped++
				break
			}
			want, n = next, n+1
		}
		if n == len(l) {
			complete++
		}
		does(t, d, l, fuel, want, n)
		does(t, d, l, fuel, want, n)
	}
	if complete < 500 || stopped < 500 {
		t.Errorf("too few of one kind: %d, %d", complete, stopped)
	}
}

func TestDoWrongDisk(t *testing.T) { // P10.1, P0: the zero disk stands in for one that is not valid
	l, after := history()
	for i, d := range wrongDisks() {
		if disk.Right(d) {
			t.Fatalf("disk %d is valid: %s", i, tell(d))
		}
		for fuel := -1; fuel <= len(l); fuel++ {
			does(t, d, l, fuel, after[max(fuel, 0)], max(fuel, 0))
		}
		for _, l := range [][]Change{nil, {{Kind: 0}}, {{Kind: 2, Name: "j"}}, {{Kind: 3, Name: "j", To: "k"}}, {{Kind: 4, Name: "j"}}} {
			does(t, d, l, 9, disk.Disk{}, 0)
		}
		does(t, d, []Change{{Kind: 5}, {Kind: 6}}, 9, disk.Disk{}, 1)
	}
}
