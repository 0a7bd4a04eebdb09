package disk

import (
	"bytes"
	"fmt"
	"math/rand"
	"slices"
	"testing"

	"boarder/api"
)

// randomName answers one of a few names, and sometimes one that may not be.
func randomName(r *rand.Rand) string {
	return []string{"a", "b", "c", "d", "a\x00", "\xff", longest, "", tooLong, fmt.Sprintf("f%02d", r.Intn(30)), fmt.Sprintf("f%02d", r.Intn(30))}[r.Intn(11)]
}

// randomKeep answers numbers of bytes that a crash leaves, wrong ones among them.
func randomKeep(r *rand.Rand) []int {
	keep := make([]int, r.Intn(9))
	for i := range keep {
		keep[i] = []int{-1, 0, r.Intn(5), r.Intn(20), api.MaxBytes}[r.Intn(5)]
	}
	return keep
}

// randomCall answers a call with arguments that are right or nearly so.
func randomCall(r *rand.Rand) call {
	c := call{kind: r.Intn(kinds), name: randomName(r), to: randomName(r), n: r.Intn(12) - 1, keep: randomKeep(r), dir: r.Intn(2) == 0}
	if c.kind == toCrash && r.Intn(4) > 0 || r.Intn(3) == 0 {
		c.kind = toAppend // or else there would seldom be many files
	}
	c.b = make([]byte, r.Intn(8))
	if r.Intn(25) == 0 {
		c.b = make([]byte, 5000*r.Intn(5))
	}
	r.Read(c.b)
	return c
}

// randomDisk answers a disk that is valid or nearly so.
func randomDisk(r *rand.Rand) Disk {
	d := Disk{Files: texts(r.Intn(4))}
	for i := range d.Files {
		if r.Intn(20) == 0 {
			d.Files[i].Safe = r.Intn(30) - 10
		}
	}
	number := 0
	for _, l := range []*[]Entry{&d.Now, &d.Kept} {
		for _, name := range []string{"a", "b", "c"} {
			if r.Intn(2) == 0 {
				continue
			}
			if r.Intn(30) == 0 {
				name = randomName(r)
			}
			e := Entry{name, number}
			if r.Intn(3) == 0 {
				e.File = r.Intn(len(d.Files)+2) - r.Intn(2)
			} else {
				number++
			}
			*l = append(*l, e)
		}
	}
	return d
}

func TestAnyDisk(t *testing.T) { // P8.1 to P8.4, P8.7, P0: no call panics, whatever the disk is
	r := rand.New(rand.NewSource(81))
	seen := map[bool]int{}
	for range 40000 {
		d := randomDisk(r)
		right := handRight(d)
		seen[right]++
		if Right(d) != right {
			t.Fatalf("Right of %s: %v", brief(d), !right)
		}
		if !right && len(Names(d)) != 0 {
			t.Fatalf("Names of %s: %q", brief(d), Names(d))
		}
		c := randomCall(r)
		got, e := c.run(d)
		want, wantE := handRun(d, c)
		if !same(got, want) || e != wantE || !Right(got) {
			t.Fatalf("%s, %s: %s, error %d, not %s, error %d", brief(d), c.brief(), brief(got), e, brief(want), wantE)
		}
	}
	if seen[true] < 2000 || seen[false] < 2000 {
		t.Errorf("too few of one kind: %v", seen)
	}
}

func TestHistories(t *testing.T) { // P8.1 to P8.4, P8.7, R4: call upon call, held against a model that numbers its files otherwise
	r := rand.New(rand.NewSource(82))
	seen := map[string]int{}
	for range 400 {
		d, m := Disk{}, modelOf(Disk{})
		for range 150 {
			c := randomCall(r)
			next, e := c.run(d)
			again, _ := c.run(d)
			wantE := m.run(c)
			seen[fmt.Sprint(c.kind, " with the error ", e)]++
			if want := m.disk(); !same(next, want) || e != wantE || !Right(next) || !same(next, again) {
				t.Fatalf("%s, %s: %s, error %d, not %s, error %d", brief(d), c.brief(), brief(next), e, brief(want), wantE)
			}
			if e != api.OK && !same(next, d) {
				t.Fatalf("%s with the error %d changes the disk", c.brief(), e)
			}
			d = next
			seen[fmt.Sprint(len(d.Files), " files")]++
		}
	}
	for _, at := range []string{"0 with the error 0", "0 with the error 1", "0 with the error 3", "1 with the error 5", "2 with the error 0", "2 with the error 1", "3 with the error 0", "3 with the error 1", "4 with the error 0", "6 with the error 0", "12 files"} {
		if seen[at] < 50 {
			t.Errorf("too few %s: %v", at, seen)
		}
	}
}

func TestSyncedStays(t *testing.T) { // P8.5
	r := rand.New(rand.NewSource(85))
	for range 600 {
		d := Disk{}
		for range r.Intn(30) {
			d, _ = randomCall(r).run(d)
		}
		d, e := Append(d, "j", []byte("some bytes"[:r.Intn(11)]))
		if e != api.OK {
			continue
		}
		d, _ = Sync(d, "j")
		d = SyncDir(d)
		synced, _ := Get(d, "j")
		for range 40 {
			if r.Intn(3) == 0 {
				d, _ = Append(d, "j", []byte("and more"))
			}
			d, _ = randomCall(r).run(d) // none of them is about j
			for _, dir := range []bool{false, true} {
				b, e := Get(Crash(d, randomKeep(r), dir), "j")
				if e != api.OK || !bytes.HasPrefix(b, synced) {
					t.Fatalf("%q after a crash, error %d, and %q was synced", b, e, synced)
				}
			}
		}
	}
}

func TestSyncedIsNeeded(t *testing.T) { // P8.4, P8.5: without either sync a crash may take it
	written, _ := Append(Disk{}, "j", []byte("hay"))
	synced, _ := Sync(written, "j")
	if b, e := Get(Crash(SyncDir(written), nil, false), "j"); len(b) != 0 || e != api.OK {
		t.Errorf("bytes that were not synced: %q, %d", b, e)
	}
	if b, e := Get(Crash(synced, []int{9}, false), "j"); len(b) != 0 || e != api.ErrNone {
		t.Errorf("a name that was not synced: %q, %d", b, e)
	}
}

func TestRenamedOver(t *testing.T) { // P8.6
	for safe := range 4 {
		for oldSafe := range 4 {
			both := []Entry{{"j", 0}, {"k", 1}}
			d := Disk{[]File{text("old", oldSafe), text("new", safe)}, both, both}
			d, e := Rename(d, "k", "j")
			if e != api.OK {
				t.Fatal(e)
			}
			for _, keep := range [][]int{nil, {0, 0}, {1, 2}, {3, 3}} {
				more := append(slices.Clone(keep), 0, 0)
				oldNames := Crash(d, keep, false)
				wantOld, wantNew := "old"[:min(3, oldSafe+more[0])], "new"[:min(3, safe+more[1])]
				becomes(t, oldNames, 0, Disk{[]File{text(wantOld, len(wantOld)), text(wantNew, len(wantNew))}, both, both}, 0)
				newNames := Crash(d, keep, true)
				want, j := "new"[:min(3, safe+more[0])], []Entry{{"j", 0}}
				becomes(t, newNames, 0, Disk{[]File{text(want, len(want))}, j, j}, 0)
			}
			after := Crash(SyncDir(d), nil, false)
			becomes(t, after, 0, Disk{[]File{text("new"[:safe], safe)}, []Entry{{"j", 0}}, []Entry{{"j", 0}}}, 0)
		}
	}
}

func TestRenamedAnywhere(t *testing.T) { // P8.6: on any disk that has both names in Kept
	r := rand.New(rand.NewSource(86))
	tried := 0
	for range 3000 {
		d := Disk{}
		for range r.Intn(40) {
			d, _ = randomCall(r).run(d)
		}
		d = SyncDir(d)
		if len(d.Now) < 2 {
			continue
		}
		tried++
		from, to := d.Now[r.Intn(len(d.Now))], d.Now[r.Intn(len(d.Now))]
		f := d.Files[from.File]
		next, _ := Rename(d, from.Name, to.Name)
		for _, dir := range []bool{false, true} {
			after := Crash(next, randomKeep(r), dir)
			name := from.Name
			if dir {
				name = to.Name
			}
			if b, e := Get(after, name); e != api.OK || !bytes.HasPrefix(b, f.Data[:f.Safe]) || !bytes.HasPrefix(f.Data, b) {
				t.Fatalf("%q renamed to %q: %q, error %d", from.Name, to.Name, b, e)
			}
			if _, e := Get(after, from.Name); dir && from != to && e != api.ErrNone {
				t.Fatalf("%q renamed to %q has its old name too", from.Name, to.Name)
			}
		}
	}
	if tried < 500 {
		t.Errorf("too few: %d", tried)
	}
}
