package journal

import (
	"fmt"
	"slices"
	"testing"

	"boarder/api"
	"boarder/disk"
)

// roomy answers a copy of a list with spare capacity that is filled.
func roomy[T any](l []T, spare T) []T {
	big := append(slices.Clone(l), slices.Repeat([]T{spare}, 40)...)
	return big[:len(l)]
}

// roomyDisk answers a copy of a disk with spare capacity everywhere.
func roomyDisk(d disk.Disk) disk.Disk {
	c := disk.Disk{Files: roomy(d.Files, disk.File{Data: []byte("spare"), Safe: 2}), Now: roomy(d.Now, disk.Entry{Name: "spare"}), Kept: roomy(d.Kept, disk.Entry{Name: "spare"})}
	for i, f := range d.Files {
		c.Files[i].Data = roomy(f.Data, 77)
	}
	return c
}

// all answers a list with what stands in its spare capacity.
func all[T any](l []T) []T {
	return l[:cap(l)]
}

// dump tells all of a disk, and of its spare capacity.
func dump(d disk.Disk) string {
	s := fmt.Sprint(len(d.Files), len(d.Now), len(d.Kept), all(d.Now), all(d.Kept))
	for _, f := range all(d.Files) {
		s += fmt.Sprint(len(f.Data), f.Safe, all(f.Data))
	}
	return s
}

// dumpChanges tells all of a list of changes, and of its spare capacity.
func dumpChanges(l []Change) string {
	s := fmt.Sprint(len(l))
	for _, c := range all(l) {
		s += fmt.Sprintf("%d %q %q %d %d", c.Kind, c.Name, c.To, len(c.B), all(c.B))
	}
	return s
}

// spoil overwrites all of a disk.
func spoil(d disk.Disk) {
	for _, f := range d.Files {
		fill(f.Data, 99)
	}
	fill(d.Files, disk.File{Safe: -7})
	fill(d.Now, disk.Entry{Name: "spoilt"})
	fill(d.Kept, disk.Entry{Name: "spoilt"})
}

// fill overwrites a list, and its spare capacity.
func fill[T any](l []T, with T) {
	for i := range all(l) {
		all(l)[i] = with
	}
}

// memoryDisks answers disks of all sorts, each list with spare capacity.
func memoryDisks() []disk.Disk {
	var ds []disk.Disk
	for _, b := range [][]byte{nil, frames(leaseA, leaseB), append(frames(leaseA), 0, 9, 1), append(frames(leaseA), 255, 255, 0, 0, 0, 0)} {
		ds = append(ds, places(b)...)
	}
	ds = slices.Concat(ds, bare(), wrongDisks())
	ds = slices.DeleteFunc(ds, func(d disk.Disk) bool { return len(d.Files) > 25 || len(d.Files) > 0 && len(d.Files[0].Data) > 500 })
	for i, d := range ds {
		ds[i] = roomyDisk(d)
	}
	return ds
}

func TestMemory(t *testing.T) { // P0, R3: arguments stay as they are, and answers share nothing with them
	for i, d := range memoryDisks() {
		before := dump(d)
		l, _, _ := Read(d)
		fill(l, api.Lease{Key: "spoilt"})
		o, _ := Open(d)
		spoil(o)
		changes, _ := Add(d, leaseC)
		for _, c := range changes {
			fill(c.B, 99)
		}
		fill(changes, Change{Kind: 99})
		if dump(d) != before {
			t.Fatalf("disk %d is changed, or shared: %s", i, tell(d))
		}
		if again, _ := Add(d, leaseC); len(again) > 0 && !alike(again[:2], handChanges(leaseC, false)) {
			t.Fatalf("disk %d: an answer is kept", i)
		}
	}
}

func TestMemoryOfDo(t *testing.T) { // P0, R3: only a disk that is returned unchanged may be shared
	l, _ := history()
	l = append(l, Change{Kind: 1, Name: "j", B: []byte("hay")}, Change{Kind: 3, Name: "j", To: "k"}, Change{Kind: 0})
	for i := range l {
		l[i].B = roomy(l[i].B, 78)
	}
	l = roomy(l, Change{Kind: 5, Name: "spare"})
	changes := dumpChanges(l)
	for i, d := range memoryDisks() {
		before := dump(d)
		for at := range len(l) + 1 {
			for _, fuel := range []int{-1, 0, 1, 2, 99} {
				got, n := Do(d, l[at:], fuel)
				if dump(d) != before || dumpChanges(l) != changes {
					t.Fatalf("disk %d: Do changes an argument", i)
				}
				if n == 0 {
					continue
				}
				spoil(got)
				if dump(d) != before || dumpChanges(l) != changes {
					t.Fatalf("disk %d: what Do answers shares memory with an argument", i)
				}
			}
		}
	}
}

func TestKeepsNothing(t *testing.T) { // P0, R3: answers stay as they are while arguments change
	l := []Change{{Kind: 1, Name: "j", B: frames(leaseA)}, {Kind: 2, Name: "j"}, {Kind: 5}}
	d, _ := Do(disk.Disk{}, l, 3)
	fill(l[0].B, 99)
	fill(l, Change{})
	reads(t, d, []api.Lease{leaseA}, 21, api.OK)
	given := places(frames(leaseA, leaseB))[1]
	o, _ := Open(given)
	leases, _, _ := Read(given)
	spoil(given)
	reads(t, o, []api.Lease{leaseA, leaseB}, 42, api.OK)
	if !slices.Equal(leases, []api.Lease{leaseA, leaseB}) {
		t.Errorf("what Read answered: %v", leases)
	}
}

func TestListsApart(t *testing.T) { // P0, R3: no two lists of one answer share memory
	a, _ := Add(disk.Disk{}, leaseA)
	fill(a[0].B, 99)
	if len(a[1].B) != 0 || len(a[2].B) != 0 || len(a[1].Name) != 1 {
		t.Errorf("changes: %v", a)
	}
	d, _ := Open(places(frames(leaseA))[12])
	for i := range d.Files {
		fill(d.Files[i].Data, byte(i))
	}
	fill(d.Now, disk.Entry{Name: "now"})
	fill(d.Kept, disk.Entry{Name: "kept"})
	for i, f := range d.Files {
		if slices.ContainsFunc(all(f.Data), func(x byte) bool { return x != byte(i) }) {
			t.Errorf("file %d shares its bytes", i)
		}
	}
	if slices.ContainsFunc(all(d.Now), func(e disk.Entry) bool { return e.Name != "now" }) {
		t.Error("the directories share their entries")
	}
}
