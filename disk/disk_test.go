package disk

import (
	"bytes"
	"fmt"
	"math"
	"math/rand"
	"slices"
	"strings"
	"testing"

	"boarder/api"
)

const (
	longest = "sixteen-bytes-xy" // as many bytes as a name may have
	tooLong = longest + "z"
)

// someBytes answers n bytes from a fixed seed.
func someBytes(n int) []byte {
	b := make([]byte, n)
	rand.New(rand.NewSource(int64(n) + 8)).Read(b)
	return b
}

// text answers a file.
func text(s string, safe int) File {
	return File{[]byte(s), safe}
}

// numbered answers n names in order, for the files from first on.
func numbered(first, n int) []Entry {
	var l []Entry
	for i := range n {
		l = append(l, Entry{fmt.Sprintf("f%02d", first+i), first + i})
	}
	return l
}

// texts answers n files, each with its number as its text.
func texts(n int) []File {
	var l []File
	for i := range n {
		l = append(l, text(fmt.Sprint("text ", i), i%6))
	}
	return l
}

// someDisks answers valid disks: the edges, and ordinary ones.
func someDisks() []Disk {
	ds := []Disk{
		{},
		{Files: []File{}, Now: []Entry{}, Kept: []Entry{}},
		{Files: []File{text("hay", 3)}, Now: []Entry{{"a", 0}}},                                                               // in Now alone
		{Files: []File{text("hay", 0)}, Kept: []Entry{{"a", 0}}},                                                              // in Kept alone
		{Files: []File{text("hay", 2)}, Now: []Entry{{"a", 0}}, Kept: []Entry{{"a", 0}}},                                      // in both
		{Files: []File{text("hay", 1)}, Now: []Entry{{"a", 0}}, Kept: []Entry{{"b", 0}}},                                      // renamed
		{Files: []File{text("", 0)}, Now: []Entry{{"b", 0}}, Kept: []Entry{{"a", 0}}},                                         // renamed, without bytes
		{Files: []File{text("new", 3), text("old", 3)}, Now: []Entry{{"a", 0}}, Kept: []Entry{{"a", 1}}},                      // one name, two files
		{Files: []File{text("x", 0), text("yy", 1)}, Now: []Entry{{"a", 0}, {"b", 1}}, Kept: []Entry{{"a", 1}, {"b", 0}}},     // swapped
		{Files: []File{text("x", 1), text("yy", 2), text("z", 0)}, Now: []Entry{{"b", 0}}, Kept: []Entry{{"a", 1}, {"c", 2}}}, // apart
		{Files: []File{text("x", 1), text("yy", 2), text("z", 0)}, Now: []Entry{{"a", 0}, {"c", 1}}, Kept: []Entry{{"a", 2}, {"b", 0}, {"c", 1}}},
		{Files: []File{text("x", 1), text("yy", 0), text("zzz", 3)}, Now: []Entry{{"B", 0}, {"a", 1}, {"a\x00", 2}}, Kept: []Entry{{"B", 2}, {"a", 1}}},
		{Files: texts(5), Now: []Entry{{"\x00", 0}, {"\x7f", 1}, {"\x80", 2}, {"\xff", 3}}, Kept: []Entry{{"\x7f", 4}, {"é", 1}, {"\xff\xff", 0}}},
		{Files: texts(3), Now: []Entry{{"s", 0}, {longest, 1}, {longest[:15] + "z", 2}}, Kept: []Entry{{longest, 0}}},
		{Files: []File{{someBytes(api.MaxBytes), 0}}, Now: []Entry{{"a", 0}}, Kept: []Entry{{"a", 0}}},
		{Files: []File{{someBytes(api.MaxBytes), api.MaxBytes}, {someBytes(api.MaxBytes - 1), 7}}, Now: []Entry{{"a", 0}, {"b", 1}}},
		{Files: texts(api.MaxFiles), Now: numbered(0, api.MaxFiles), Kept: numbered(0, api.MaxFiles)},
		{Files: texts(api.MaxFiles), Now: numbered(0, api.MaxFiles)},
		{Files: texts(api.MaxFiles), Kept: numbered(0, api.MaxFiles)},
		{Files: texts(api.MaxFiles), Now: numbered(0, 10), Kept: numbered(5, 15)},
		{Files: texts(api.MaxFiles - 1), Now: numbered(0, api.MaxFiles-1)},
		{Files: texts(api.MaxFiles - 1), Now: numbered(0, 3), Kept: numbered(3, api.MaxFiles-4)},
	}
	for safe := range 4 {
		ds = append(ds, Disk{Files: []File{text("hay", safe), text("wain", 4-safe)}, Now: []Entry{{"a", 0}, {"b", 1}}, Kept: []Entry{{"b", 0}, {"c", 1}}})
	}
	return ds
}

// wrongDisks answers disks that are not valid, each in one way; those that have room for the name a have it, so that a call could take them by it.
func wrongDisks() []Disk {
	a, ab := []Entry{{"a", 0}}, []Entry{{"a", 0}, {"b", 1}}
	one, two := []File{text("hay", 1)}, []File{text("hay", 1), text("wain", 2)}
	ds := []Disk{
		// Too many files, and too many bytes.
		{Files: texts(api.MaxFiles + 1), Now: numbered(0, api.MaxFiles+1)}, {Files: texts(api.MaxFiles + 1), Kept: numbered(0, api.MaxFiles+1)},
		{Files: texts(api.MaxFiles + 1), Now: numbered(0, 11), Kept: numbered(11, 10)}, {Files: texts(300), Now: numbered(0, 300)}, {Files: make([]File, 100000)},
		{Files: []File{{someBytes(api.MaxBytes + 1), 0}}, Now: a}, {Files: []File{{someBytes(api.MaxBytes + 1), 9}}, Kept: a}, {Files: []File{text("", 0), {someBytes(100000), 0}}, Now: ab},
		// Names that are out of order, and equal.
		{Files: two, Now: []Entry{{"b", 0}, {"a", 1}}}, {Files: two, Kept: []Entry{{"b", 0}, {"a", 1}}}, {Files: two, Now: []Entry{{"a", 0}, {"B", 1}}}, {Files: two, Now: []Entry{{"a\x00", 0}, {"a", 1}}},
		{Files: two, Now: []Entry{{"a", 0}, {"a", 1}}}, {Files: two, Kept: []Entry{{"a", 0}, {"a", 1}}}, {Files: two, Now: ab, Kept: []Entry{{"b", 0}, {"b", 1}}}, {Files: two, Now: []Entry{{"a", 0}, {"\xff", 1}, {"\x80", 1}}},
		{Files: texts(3), Now: []Entry{{"a", 0}, {"c", 1}, {"b", 2}}}, {Files: texts(3), Now: []Entry{{"a", 0}, {"b", 1}, {"a", 2}}}, {Files: texts(3), Kept: []Entry{{"a", 0}, {"b", 1}, {"b", 2}}},
		// Two entries of one list with the same file.
		{Files: one, Now: []Entry{{"a", 0}, {"b", 0}}}, {Files: one, Kept: []Entry{{"a", 0}, {"b", 0}}}, {Files: one, Now: a, Kept: []Entry{{"a", 0}, {"b", 0}}}, {Files: two, Now: []Entry{{"a", 0}, {"b", 1}, {"c", 0}}},
		{Files: two, Now: ab, Kept: []Entry{{"a", 1}, {"b", 0}, {"c", 1}}}, {Files: one, Now: make([]Entry, 100000)},
		// Files that are numbered in another order.
		{Files: two, Now: []Entry{{"a", 1}, {"b", 0}}}, {Files: two, Kept: []Entry{{"a", 1}, {"b", 0}}}, {Files: two, Now: []Entry{{"a", 1}}, Kept: a}, {Files: two, Now: []Entry{{"b", 1}}, Kept: []Entry{{"a", 0}, {"b", 1}}},
		{Files: texts(3), Now: a, Kept: []Entry{{"a", 2}, {"b", 1}}}, {Files: texts(3), Now: []Entry{{"a", 0}, {"b", 2}}, Kept: []Entry{{"b", 1}}},
		// Files without a name.
		{Files: one}, {Files: two, Now: a}, {Files: two, Kept: a}, {Files: two, Now: a, Kept: a}, {Files: two, Now: []Entry{{"a", 1}}}, {Files: two, Kept: []Entry{{"a", 1}}}, {Files: texts(3), Now: a, Kept: []Entry{{"a", 2}}},
		{Files: []File{{}}}, {Files: texts(api.MaxFiles), Now: numbered(0, 9), Kept: numbered(0, api.MaxFiles-1)},
		// Names without files.
		{Now: a}, {Kept: a}, {Now: a, Kept: a}, {Now: []Entry{{}}}, {Kept: []Entry{{}}},
	}
	for _, safe := range []int{math.MinInt, -3, -1, 4, 5, api.MaxBytes, math.MaxInt} {
		ds = append(ds, Disk{Files: []File{text("hay", safe)}, Now: a}, Disk{Files: []File{text("hay", 3), text("wai", safe)}, Now: a, Kept: []Entry{{"a", 1}}}, Disk{Files: []File{{nil, safe}}, Now: a})
	}
	for _, name := range []string{"", tooLong, strings.Repeat("z", 300)} {
		last := Entry{name, 1}
		ds = append(ds, Disk{Files: two, Now: []Entry{{"a", 0}, last}}, Disk{Files: two, Kept: []Entry{{"a", 0}, last}}, Disk{Files: two, Now: a, Kept: []Entry{last}},
			Disk{Files: two, Now: []Entry{{name, 0}, {"zz", 1}}}, Disk{Files: one, Now: []Entry{{name, 0}}}, Disk{Files: one, Now: a, Kept: []Entry{{name, 0}}})
	}
	for _, n := range []int{math.MinInt, -1 << 32, -2, -1, 2, 3, api.MaxFiles, 1 << 32, math.MaxInt} {
		last := Entry{"b", n}
		ds = append(ds, Disk{Files: two, Now: append(slices.Clone(a), last), Kept: ab}, Disk{Files: two, Now: ab, Kept: append(slices.Clone(a), last)}, Disk{Files: two, Now: append(slices.Clone(ab), Entry{"c", n})},
			Disk{Files: one, Now: []Entry{{"a", n}}}, Disk{Files: one, Kept: []Entry{{"a", n}}}, Disk{Now: []Entry{{"a", n}}})
	}
	return ds
}

// someCalls answers each call with many arguments, for a disk with names such as someDisks have.
func someCalls() []call {
	names := []string{"a", "b", "c", "B", "é", "\x80", "f00", "f05", "f18", "f19", "f20", "", "\x00", "a\x00", "aa", longest, longest[:15], tooLong, strings.Repeat("a", 300)}
	var cs []call
	for _, name := range names {
		cs = append(cs, call{kind: toSync, name: name}, call{kind: toRemove, name: name})
		for _, b := range [][]byte{nil, {}, {7}, []byte("wain"), someBytes(api.MaxBytes - 3), someBytes(api.MaxBytes - 2), someBytes(api.MaxBytes), someBytes(api.MaxBytes + 1)} {
			cs = append(cs, call{kind: toAppend, name: name, b: b})
		}
		for _, n := range []int{math.MinInt, -1, 0, 1, 2, 3, 4, 6, 7, api.MaxBytes - 1, api.MaxBytes, api.MaxBytes + 1, math.MaxInt} {
			cs = append(cs, call{kind: toCut, name: name, n: n})
		}
		for _, to := range names {
			cs = append(cs, call{kind: toRename, name: name, to: to})
		}
	}
	cs = append(cs, call{kind: toSyncDir})
	for _, dir := range []bool{false, true} {
		for _, keep := range [][]int{
			nil, {}, {0}, {1}, {2}, {0, 1}, {1, 0}, {1, 1}, {2, 1, 9}, {0, 0, 2}, {-1}, {-1, 2}, {1, -1, 1}, {math.MinInt, 1}, {math.MaxInt}, {1, math.MaxInt}, {math.MaxInt, math.MaxInt, math.MaxInt},
			{api.MaxBytes - 1}, {api.MaxBytes}, {api.MaxBytes + 1, 1}, slices.Repeat([]int{1}, 19), slices.Repeat([]int{2, 0, 1}, 7), slices.Repeat([]int{3}, 1000),
		} {
			cs = append(cs, call{kind: toCrash, keep: keep, dir: dir})
		}
	}
	return cs
}

// brief tells a disk in a few words.
func brief(d Disk) string {
	s := fmt.Sprintf("%d files, Now %.200q, Kept %.200q:", len(d.Files), fmt.Sprint(d.Now), fmt.Sprint(d.Kept))
	for _, f := range d.Files[:min(len(d.Files), 4)] {
		s += fmt.Sprintf(" %d bytes %.20q safe %d;", len(f.Data), f.Data, f.Safe)
	}
	return s
}

// brief tells a call in a few words.
func (c call) brief() string {
	return fmt.Sprintf("call %d of %.20q to %.20q, %d bytes, n %d, keep %d, dir %v", c.kind, c.name, c.to, len(c.b), c.n, c.keep[:min(len(c.keep), 25)], c.dir)
}

// becomes: is this what a call answered?
func becomes(t *testing.T, got Disk, e api.Errno, want Disk, wantE api.Errno) {
	t.Helper()
	if !same(got, want) || e != wantE {
		t.Errorf("%s, error %d, not %s, error %d", brief(got), e, brief(want), wantE)
	}
}

func TestRight(t *testing.T) { // P8.1
	for i, d := range someDisks() {
		if !Right(d) || !handRight(d) {
			t.Errorf("Right of disk %d, %s: %v", i, brief(d), Right(d))
		}
	}
	for i, d := range wrongDisks() {
		if Right(d) || handRight(d) {
			t.Errorf("Right of wrong disk %d, %s: %v", i, brief(d), Right(d))
		}
	}
}

// lists answers all lists of at most two entries with these names, for the files from -1 to files.
func lists(files int, names ...string) [][]Entry {
	var all []Entry
	for _, name := range names {
		for n := -1; n <= files; n++ {
			all = append(all, Entry{name, n})
		}
	}
	ls := [][]Entry{nil}
	for _, e := range all {
		ls = append(ls, []Entry{e})
		for _, f := range all {
			ls = append(ls, []Entry{e, f})
		}
	}
	return ls
}

func TestRightOfAll(t *testing.T) { // P8.1: all disks of up to three files and two names in each list
	right := 0
	for n := range 4 {
		ls := lists(min(n, 2), "", "a", "b")
		for _, now := range ls {
			for _, kept := range ls {
				d := Disk{texts(n), now, kept}
				want := handRight(d)
				if Right(d) != want {
					t.Fatalf("Right of %s: %v", brief(d), !want)
				}
				if want {
					right++
				}
			}
		}
	}
	if right < 15 {
		t.Errorf("too few valid ones: %d", right)
	}
}

func TestNames(t *testing.T) { // P8.1: those of Now, in order
	d := Disk{texts(4), []Entry{{"B", 0}, {"a", 1}, {longest, 2}}, []Entry{{"a", 3}, {"c", 0}}}
	if l := Names(d); !slices.Equal(l, []string{"B", "a", longest}) {
		t.Errorf("Names: %q", l)
	}
	if l := Names(Disk{Files: texts(1), Kept: []Entry{{"a", 0}}}); len(l) != 0 {
		t.Errorf("Names of a disk with Kept alone: %q", l)
	}
	for i, d := range someDisks() {
		l := Names(d)
		for j, e := range d.Now {
			if len(l) != len(d.Now) || l[j] != e.Name {
				t.Fatalf("Names of disk %d: %q", i, l)
			}
		}
		if len(l) != len(d.Now) {
			t.Errorf("Names of disk %d: %q", i, l)
		}
	}
}

func TestGet(t *testing.T) { // P8.1: the bytes of Now's file, safe or not
	d := Disk{[]File{text("x", 0), text("yy", 1), text("", 0), text("old", 3)}, []Entry{{"a", 0}, {"b", 1}, {"c", 2}}, []Entry{{"a", 3}, {"d", 1}}}
	for name, want := range map[string]string{"a": "x", "b": "yy", "c": ""} {
		if b, e := Get(d, name); string(b) != want || e != api.OK {
			t.Errorf("Get %q: %q, %d", name, b, e)
		}
	}
	for _, name := range []string{"d", "", "aa", "A", "a\x00", "\x00", longest, tooLong, strings.Repeat("a", 100000)} {
		if b, e := Get(d, name); len(b) != 0 || e != api.ErrNone {
			t.Errorf("Get %.20q: %q, %d", name, b, e)
		}
	}
	for i, d := range someDisks() {
		for _, e := range d.Now {
			if b, err := Get(d, e.Name); !bytes.Equal(b, d.Files[e.File].Data) || err != api.OK {
				t.Errorf("Get %q of disk %d: %d bytes, %d", e.Name, i, len(b), err)
			}
		}
	}
}

func TestAppend(t *testing.T) { // P8.2: to a name that is there, and to one that is not, bytes and no bytes
	d := Disk{[]File{text("hay", 1), text("old", 2)}, []Entry{{"b", 0}}, []Entry{{"a", 1}, {"b", 0}}}
	next, e := Append(d, "b", []byte("wain"))
	becomes(t, next, e, Disk{[]File{text("haywain", 1), text("old", 2)}, d.Now, d.Kept}, api.OK)
	next, e = Append(d, "b", nil)
	becomes(t, next, e, d, api.OK)
	next, e = Append(d, "a", []byte("new")) // in Kept alone: another file
	becomes(t, next, e, Disk{[]File{text("new", 0), text("hay", 1), text("old", 2)}, []Entry{{"a", 0}, {"b", 1}}, []Entry{{"a", 2}, {"b", 1}}}, api.OK)
	next, e = Append(d, "c", []byte{})
	becomes(t, next, e, Disk{[]File{text("hay", 1), text("", 0), text("old", 2)}, []Entry{{"b", 0}, {"c", 1}}, []Entry{{"a", 2}, {"b", 0}}}, api.OK)
	for _, name := range []string{"x", longest, "\x00", "\xff", "é"} {
		next, e = Append(Disk{}, name, []byte("hay"))
		becomes(t, next, e, Disk{Files: []File{text("hay", 0)}, Now: []Entry{{name, 0}}}, api.OK)
		next, e = Append(Disk{}, name, nil)
		becomes(t, next, e, Disk{Files: []File{{}}, Now: []Entry{{name, 0}}}, api.OK)
	}
}

func TestAppendWrong(t *testing.T) { // P8.2: ErrArg ahead of ErrFull, and the disk as it was
	full := Disk{Files: texts(api.MaxFiles), Now: numbered(0, 12), Kept: numbered(5, 15)}
	for _, d := range []Disk{{}, full} {
		for _, name := range []string{"", tooLong, strings.Repeat("a", 256+1), strings.Repeat("a", 1<<16+1)} {
			for _, b := range [][]byte{nil, {1}, someBytes(api.MaxBytes + 1)} {
				next, e := Append(d, name, b)
				becomes(t, next, e, d, api.ErrArg)
			}
		}
	}
}

func TestAppendBytes(t *testing.T) { // P8.2: MaxBytes, and one more, at once and in two steps
	for _, n := range []int{0, 1, 9999, 19999, api.MaxBytes} {
		had := Disk{[]File{{someBytes(n), n / 2}}, []Entry{{"a", 0}}, []Entry{{"b", 0}}}
		more := someBytes(api.MaxBytes - n)
		next, e := Append(had, "a", more)
		becomes(t, next, e, Disk{[]File{{slices.Concat(someBytes(n), more), n / 2}}, had.Now, had.Kept}, api.OK)
		for _, over := range []int{1, 2, 1000, api.MaxBytes, 100000} {
			next, e = Append(had, "a", someBytes(api.MaxBytes-n+over))
			becomes(t, next, e, had, api.ErrFull)
			next, e = Append(had, "b", someBytes(api.MaxBytes+over))
			becomes(t, next, e, had, api.ErrFull)
		}
	}
}

func TestAppendFiles(t *testing.T) { // P8.2: MaxFiles, and one more, whichever list has them
	d := Disk{}
	for i := range api.MaxFiles {
		var e api.Errno
		d, e = Append(d, fmt.Sprintf("f%02d", api.MaxFiles-1-i), []byte{byte(i)})
		if e != api.OK || len(d.Files) != i+1 || !Right(d) {
			t.Fatalf("file %d: %d, %s", i, e, brief(d))
		}
	}
	for _, full := range []Disk{d, {Files: texts(api.MaxFiles), Kept: numbered(0, api.MaxFiles)}, {Files: texts(api.MaxFiles), Now: numbered(0, 7), Kept: numbered(6, 14)}} {
		for _, b := range [][]byte{nil, {1}, someBytes(api.MaxBytes + 1)} {
			next, e := Append(full, "x", b)
			becomes(t, next, e, full, api.ErrFull)
			next, e = Append(full, "f99", b)
			becomes(t, next, e, full, api.ErrFull)
		}
	}
	next, e := Append(d, "f03", []byte("more")) // no further file
	if b, f := Get(next, "f03"); string(b) != "\x10more" || e != api.OK || f != api.OK {
		t.Errorf("Append to a full disk: %q, %d", b, e)
	}
}

func TestSync(t *testing.T) { // P8.2
	for safe := range 4 {
		d := Disk{[]File{text("x", 0), text("hay", safe), text("old", 1)}, []Entry{{"a", 0}, {"b", 1}}, []Entry{{"b", 2}, {"c", 1}}}
		next, e := Sync(d, "b")
		becomes(t, next, e, Disk{[]File{text("x", 0), text("hay", 3), text("old", 1)}, d.Now, d.Kept}, api.OK)
		for _, name := range []string{"c", "d", "", tooLong} {
			next, e = Sync(d, name)
			becomes(t, next, e, d, api.ErrNone)
		}
	}
	d := Disk{Files: []File{{}}, Now: []Entry{{"a", 0}}}
	next, e := Sync(d, "a")
	becomes(t, next, e, d, api.OK)
}

func TestCut(t *testing.T) { // P8.2: to 0, to all bytes, to one more, to -1; what stays is durable
	for safe := range 4 {
		d := Disk{[]File{text("x", 0), text("hay", safe), text("old", 1)}, []Entry{{"a", 0}, {"b", 1}}, []Entry{{"b", 2}, {"c", 1}}}
		for n := range 4 {
			next, e := Cut(d, "b", n)
			becomes(t, next, e, Disk{[]File{text("x", 0), text("hay"[:n], n), text("old", 1)}, d.Now, d.Kept}, api.OK)
		}
		for _, n := range []int{math.MinInt, -4, -1, 4, 5, api.MaxBytes, 1 << 32, math.MaxInt} {
			next, e := Cut(d, "b", n)
			becomes(t, next, e, d, api.ErrArg)
		}
		for _, name := range []string{"c", "d", "", tooLong} {
			for _, n := range []int{-1, 0, 1, 4} { // ErrNone ahead of ErrArg
				next, e := Cut(d, name, n)
				becomes(t, next, e, d, api.ErrNone)
			}
		}
	}
}

func TestRename(t *testing.T) { // P8.3: to a name that is not there, to one that is, to the same, and to one that Kept has
	d := Disk{[]File{text("x", 0), text("yy", 1), text("z", 1)}, []Entry{{"a", 0}, {"b", 1}}, []Entry{{"a", 0}, {"c", 2}}}
	next, e := Rename(d, "a", "d")
	becomes(t, next, e, Disk{[]File{text("yy", 1), text("x", 0), text("z", 1)}, []Entry{{"b", 0}, {"d", 1}}, []Entry{{"a", 1}, {"c", 2}}}, api.OK)
	next, e = Rename(d, "a", "b") // b's file has no name any more
	becomes(t, next, e, Disk{[]File{text("x", 0), text("z", 1)}, []Entry{{"b", 0}}, []Entry{{"a", 0}, {"c", 1}}}, api.OK)
	next, e = Rename(d, "b", "a") // a's file is Kept's
	becomes(t, next, e, Disk{[]File{text("yy", 1), text("x", 0), text("z", 1)}, []Entry{{"a", 0}}, []Entry{{"a", 1}, {"c", 2}}}, api.OK)
	next, e = Rename(d, "b", "c")
	becomes(t, next, e, Disk{d.Files, []Entry{{"a", 0}, {"c", 1}}, d.Kept}, api.OK)
	next, e = Rename(d, "b", "\x00")
	becomes(t, next, e, Disk{[]File{text("yy", 1), text("x", 0), text("z", 1)}, []Entry{{"\x00", 0}, {"a", 1}}, []Entry{{"a", 1}, {"c", 2}}}, api.OK)
	next, e = Rename(d, "b", longest)
	becomes(t, next, e, Disk{d.Files, []Entry{{"a", 0}, {longest, 1}}, d.Kept}, api.OK)
	for _, d := range someDisks() {
		for _, entry := range d.Now {
			next, e = Rename(d, entry.Name, entry.Name)
			becomes(t, next, e, d, api.OK)
		}
	}
}

func TestRenameWrong(t *testing.T) { // P8.3: ErrNone ahead of ErrArg, and the disk as it was
	d := Disk{[]File{text("x", 0), text("yy", 1), text("z", 1)}, []Entry{{"a", 0}, {"b", 1}}, []Entry{{"a", 0}, {"c", 2}}}
	for _, to := range []string{"", tooLong, strings.Repeat("a", 1<<16+1)} {
		next, e := Rename(d, "a", to)
		becomes(t, next, e, d, api.ErrArg)
		for _, name := range []string{"c", "d", "", tooLong, to} {
			next, e = Rename(d, name, to)
			becomes(t, next, e, d, api.ErrNone)
			next, e = Rename(d, name, "b")
			becomes(t, next, e, d, api.ErrNone)
		}
	}
}

func TestRemove(t *testing.T) { // P8.3: of a name that Kept still has, and Append to it behind that; and of one that it has not
	d := Disk{[]File{text("x", 0), text("yy", 1)}, []Entry{{"a", 0}, {"b", 1}}, []Entry{{"a", 0}}}
	gone, e := Remove(d, "a")
	becomes(t, gone, e, Disk{[]File{text("yy", 1), text("x", 0)}, []Entry{{"b", 0}}, []Entry{{"a", 1}}}, api.OK)
	next, e := Append(gone, "a", []byte("new"))
	becomes(t, next, e, Disk{[]File{text("new", 0), text("yy", 1), text("x", 0)}, []Entry{{"a", 0}, {"b", 1}}, []Entry{{"a", 2}}}, api.OK)
	next, e = Remove(d, "b")
	becomes(t, next, e, Disk{[]File{text("x", 0)}, []Entry{{"a", 0}}, []Entry{{"a", 0}}}, api.OK)
	next, e = Remove(next, "a")
	becomes(t, next, e, Disk{Files: []File{text("x", 0)}, Kept: []Entry{{"a", 0}}}, api.OK)
	for _, name := range []string{"a", "b", "", "c", tooLong} {
		again, e := Remove(next, name)
		becomes(t, again, e, next, api.ErrNone)
	}
	next, e = Remove(Disk{Files: texts(1), Now: []Entry{{"a", 0}}}, "a")
	becomes(t, next, e, Disk{}, api.OK)
}

func TestSyncDir(t *testing.T) { // P8.3: bytes that are not safe stay so, and files that Kept alone had are gone
	d := Disk{[]File{text("x", 0), text("yy", 1), text("z", 1)}, []Entry{{"a", 0}, {"b", 1}}, []Entry{{"a", 2}, {"c", 1}}}
	becomes(t, SyncDir(d), 0, Disk{[]File{text("x", 0), text("yy", 1)}, d.Now, d.Now}, 0)
	becomes(t, SyncDir(Disk{}), 0, Disk{}, 0)
	becomes(t, SyncDir(Disk{Files: texts(1), Kept: []Entry{{"a", 0}}}), 0, Disk{}, 0)
	for _, d := range someDisks() {
		next := SyncDir(d)
		files := d.Files[:len(d.Now)]
		becomes(t, next, 0, Disk{files, d.Now, d.Now}, 0)
		becomes(t, SyncDir(next), 0, next, 0)
	}
}

func TestExample(t *testing.T) { // the chapter's example
	d, _ := Append(Disk{}, "j", []byte("hay"))
	d, _ = Sync(d, "j")
	becomes(t, Crash(d, nil, false), 0, Disk{}, 0)
	j := []Entry{{"j", 0}}
	becomes(t, Crash(SyncDir(d), nil, false), 0, Disk{[]File{text("hay", 3)}, j, j}, 0)
}

func TestCrash(t *testing.T) { // P8.4: keep shorter and longer than the names, negative and beyond the bytes
	now, kept := []Entry{{"a", 0}, {"b", 1}}, []Entry{{"b", 2}, {"c", 0}}
	d := Disk{[]File{text("12345", 2), text("abc", 0), text("xyz", 3)}, now, kept}
	ab, bc := []Entry{{"a", 0}, {"b", 1}}, []Entry{{"b", 0}, {"c", 1}}
	for _, c := range []struct {
		keep       []int
		a, b, x, c string
	}{
		{nil, "12", "", "xyz", "12"}, {[]int{0}, "12", "", "xyz", "12"}, {[]int{1}, "123", "", "xyz", "12"}, {[]int{3}, "12345", "", "xyz", "12"},
		{[]int{2, 1}, "1234", "a", "xyz", "123"}, {[]int{4, 4}, "12345", "abc", "xyz", "12345"}, {[]int{-1, 2}, "12", "ab", "xyz", "1234"},
		{[]int{1, -1}, "123", "", "xyz", "12"}, {[]int{1, 3, 5, 7}, "123", "abc", "xyz", "12345"}, {[]int{math.MinInt, math.MinInt}, "12", "", "xyz", "12"},
		{[]int{math.MaxInt, math.MaxInt}, "12345", "abc", "xyz", "12345"}, {[]int{math.MaxInt - 1, math.MaxInt - 2}, "12345", "abc", "xyz", "12345"}, {slices.Repeat([]int{1}, 1000), "123", "a", "xyz", "123"},
	} {
		becomes(t, Crash(d, c.keep, true), 0, Disk{[]File{text(c.a, len(c.a)), text(c.b, len(c.b))}, ab, ab}, 0)
		becomes(t, Crash(d, c.keep, false), 0, Disk{[]File{text(c.x, len(c.x)), text(c.c, len(c.c))}, bc, bc}, 0)
		becomes(t, Crash(Disk{}, c.keep, true), 0, Disk{}, 0)
		becomes(t, Crash(Disk{}, c.keep, false), 0, Disk{}, 0)
	}
	once := Crash(d, []int{1, 1}, true)
	for _, dir := range []bool{false, true} { // what has survived one crash survives the next
		becomes(t, Crash(once, nil, dir), 0, once, 0)
		becomes(t, Crash(once, []int{5, 5}, dir), 0, once, 0)
	}
}

func TestEveryCall(t *testing.T) { // P8.2 to P8.4, P8.7: each call on each disk
	for i, d := range someDisks() {
		for _, c := range someCalls() {
			got, e := c.run(d)
			want, wantE := handRun(d, c)
			if !same(got, want) || e != wantE || !Right(got) {
				t.Fatalf("disk %d, %s: %s, error %d, not %s, error %d", i, c.brief(), brief(got), e, brief(want), wantE)
			}
		}
	}
}

func TestWrongDisks(t *testing.T) { // P0, and the chapter's words: the zero disk takes the place of one that is not valid, for every call
	for i, d := range wrongDisks() {
		if l := Names(d); len(l) != 0 {
			t.Errorf("Names of wrong disk %d: %q", i, l)
		}
		for _, name := range []string{"", "a", "b", "f00", tooLong} {
			if b, e := Get(d, name); len(b) != 0 || e != api.ErrNone {
				t.Errorf("Get %q of wrong disk %d: %q, %d", name, i, b, e)
			}
		}
		for _, c := range someCalls() {
			got, e := c.run(d)
			want, wantE := c.run(Disk{})
			hand, handE := handRun(Disk{}, c)
			if !same(got, want) || e != wantE || !same(got, hand) || e != handE {
				t.Fatalf("wrong disk %d, %s: %s, error %d, not %s, error %d", i, c.brief(), brief(got), e, brief(want), wantE)
			}
		}
	}
}
