package disk

import (
	"fmt"
	"slices"
	"strings"
	"testing"

	"boarder/api"
)

// room answers a list with spare capacity that is filled.
func room[T any](l []T, with T) []T {
	big := append(make([]T, 0, len(l)+5), l...)
	for i := len(l); i < cap(big); i++ {
		big[:cap(big)][i] = with
	}
	return big
}

// roomy answers a copy of a disk with spare capacity everywhere.
func roomy(d Disk) Disk {
	c := Disk{room(d.Files, File{[]byte("spare"), 3}), room(d.Now, Entry{"spare", 9}), room(d.Kept, Entry{"spare", 8})}
	for i, f := range d.Files {
		c.Files[i].Data = room(f.Data, 77)
	}
	return c
}

// dump tells all of a disk, and what stands in its spare capacity.
func dump(d Disk) string {
	var s strings.Builder
	fmt.Fprint(&s, len(d.Files), len(d.Now), len(d.Kept), d.Now[:cap(d.Now)], d.Kept[:cap(d.Kept)])
	for _, f := range d.Files[:cap(d.Files)] {
		fmt.Fprint(&s, f.Safe, len(f.Data))
		s.Write(f.Data[:cap(f.Data)])
	}
	return s.String()
}

// fill overwrites a list, and its spare capacity.
func fill[T any](l []T, with T) {
	l = l[:cap(l)]
	for i := range l {
		l[i] = with
	}
}

// filled: does a list have nothing else?
func filled[T comparable](l []T, with T) bool {
	return !slices.ContainsFunc(l[:cap(l)], func(x T) bool { return x != with })
}

// spoil overwrites each list of a disk, with what no other one gets: is each as it was left in the end?
func spoil(d Disk) bool {
	var data [][]byte
	for _, f := range d.Files {
		data = append(data, f.Data)
		fill(f.Data, byte(100+len(data)))
	}
	fill(d.Now, Entry{"spoilt", 1})
	fill(d.Kept, Entry{"spoilt", 2})
	fill(d.Files, File{nil, -7})
	ok := filled(d.Now, Entry{"spoilt", 1}) && filled(d.Kept, Entry{"spoilt", 2})
	for i, b := range data {
		ok = ok && filled(b, byte(101+i))
	}
	return ok
}

func TestMemory(t *testing.T) { // P0, R3: arguments stay as they are, and answers are memory of their own
	for i, d := range append(someDisks(), wrongDisks()...) {
		if len(d.Files) > 100 || len(d.Now) > 100 {
			continue // they would be told at length for each call
		}
		for _, c := range someCalls() {
			given := roomy(d)
			c.b, c.keep = room(c.b, 78), room(c.keep, 79)
			before, b, keep := dump(given), string(c.b[:cap(c.b)]), fmt.Sprint(c.keep[:cap(c.keep)])
			got, e := c.run(given)
			if dump(given) != before {
				t.Fatalf("disk %d, %s: the argument changes", i, c.brief())
			}
			if e == api.OK && !spoil(got) {
				t.Fatalf("disk %d, %s: two lists of the answer share memory", i, c.brief())
			}
			if dump(given) != before || string(c.b[:cap(c.b)]) != b || fmt.Sprint(c.keep[:cap(c.keep)]) != keep {
				t.Fatalf("disk %d, %s: the answer shares memory with an argument", i, c.brief())
			}
		}
	}
}

func TestMemoryOfReading(t *testing.T) { // P0, R3
	for i, d := range append(someDisks(), wrongDisks()...) {
		given := roomy(d)
		before := dump(given)
		Right(given)
		fill(Names(given), "spoilt")
		for _, name := range append(Names(given), "a", "", tooLong) {
			b, _ := Get(given, name)
			fill(b, 99)
		}
		if dump(given) != before {
			t.Errorf("a call shares or changes disk %d", i)
		}
	}
}

func TestKeepsNothing(t *testing.T) { // P0, R3: an answer stays as it is while the arguments change
	b := []byte("hay")
	d, _ := Append(Disk{}, "a", b)
	fill(b, 99)
	becomes(t, d, 0, Disk{Files: []File{text("hay", 0)}, Now: []Entry{{"a", 0}}}, 0)
	next := SyncDir(d)
	spoil(d)
	becomes(t, next, 0, Disk{[]File{text("hay", 0)}, []Entry{{"a", 0}}, []Entry{{"a", 0}}}, 0)
}
