package disk

import (
	"bytes"
	"maps"
	"slices"

	"boarder/api"
)

// The calls that answer a disk.
const (
	toAppend = iota
	toSync
	toCut
	toRename
	toRemove
	toSyncDir
	toCrash
	kinds
)

// call is one of them, with its arguments.
type call struct {
	kind     int
	name, to string
	b        []byte
	n        int
	keep     []int
	dir      bool
}

// run answers what the call of the package answers.
func (c call) run(d Disk) (Disk, api.Errno) {
	switch c.kind {
	case toAppend:
		return Append(d, c.name, c.b)
	case toSync:
		return Sync(d, c.name)
	case toCut:
		return Cut(d, c.name, c.n)
	case toRename:
		return Rename(d, c.name, c.to)
	case toRemove:
		return Remove(d, c.name)
	case toSyncDir:
		return SyncDir(d), api.OK
	}
	return Crash(d, c.keep, c.dir), api.OK
}

// model is a disk told in another way: a file keeps the number it got when it was made, whether it has a name or not.
type model struct {
	files     []File
	now, kept map[string]int
}

// modelOf answers the model of a disk, which must be valid.
func modelOf(d Disk) *model {
	m := &model{now: map[string]int{}, kept: map[string]int{}}
	for _, f := range d.Files {
		m.files = append(m.files, File{bytes.Clone(f.Data), f.Safe})
	}
	for _, e := range d.Now {
		m.now[e.Name] = e.File
	}
	for _, e := range d.Kept {
		m.kept[e.Name] = e.File
	}
	return m
}

// disk answers the model as a disk that is normalized.
func (m *model) disk() Disk {
	var d Disk
	numbers := map[int]int{}
	list := func(names map[string]int) []Entry {
		var l []Entry
		for _, name := range slices.Sorted(maps.Keys(names)) {
			f := names[name]
			if _, found := numbers[f]; !found {
				numbers[f] = len(d.Files)
				d.Files = append(d.Files, File{bytes.Clone(m.files[f].Data), m.files[f].Safe})
			}
			l = append(l, Entry{name, numbers[f]})
		}
		return l
	}
	d.Now = list(m.now)
	d.Kept = list(m.kept)
	return d
}

// named answers how many files have a name.
func (m *model) named() int {
	all := map[int]int{}
	for _, f := range m.now {
		all[f]++
	}
	for _, f := range m.kept {
		all[f]++
	}
	return len(all)
}

// put does what P8.2 says of Append.
func (m *model) put(name string, b []byte) api.Errno {
	f, found := m.now[name]
	switch {
	case name == "" || len(name) > 16:
		return api.ErrArg
	case found && len(m.files[f].Data)+len(b) > 20000, len(b) > 20000, !found && m.named() == 20:
		return api.ErrFull
	case !found:
		f = len(m.files)
		m.files = append(m.files, File{})
		m.now[name] = f
	}
	m.files[f].Data = append(m.files[f].Data, b...)
	return api.OK
}

// crash does what P8.4 says.
func (m *model) crash(keep []int, dir bool) {
	if !dir {
		m.now = maps.Clone(m.kept)
	}
	m.kept = maps.Clone(m.now)
	for i, name := range slices.Sorted(maps.Keys(m.now)) {
		f := &m.files[m.now[name]]
		for more := 0; i < len(keep) && more < keep[i] && f.Safe < len(f.Data); more++ {
			f.Safe++
		}
		f.Data = f.Data[:f.Safe]
	}
}

// run does what P8.2 to P8.4 say of a call.
func (m *model) run(c call) api.Errno {
	f, found := m.now[c.name]
	switch {
	case c.kind == toAppend:
		return m.put(c.name, c.b)
	case c.kind == toSyncDir:
		m.kept = maps.Clone(m.now)
	case c.kind == toCrash:
		m.crash(c.keep, c.dir)
	case !found:
		return api.ErrNone
	case c.kind == toSync:
		m.files[f].Safe = len(m.files[f].Data)
	case c.kind == toCut:
		if c.n < 0 || c.n > len(m.files[f].Data) {
			return api.ErrArg
		}
		m.files[f] = File{m.files[f].Data[:c.n], c.n}
	case c.kind == toRename:
		if c.to == "" || len(c.to) > 16 {
			return api.ErrArg
		}
		delete(m.now, c.name)
		m.now[c.to] = f
	case c.kind == toRemove:
		delete(m.now, c.name)
	}
	return api.OK
}

// handRun answers what the document says of a call: of the zero disk, where this one is not valid.
func handRun(d Disk, c call) (Disk, api.Errno) {
	if !handRight(d) {
		d = Disk{}
	}
	m := modelOf(d)
	e := m.run(c)
	return m.disk(), e
}

// handRight answers what the chapter's words say of a valid disk, one by one.
func handRight(d Disk) bool {
	ok := len(d.Files) <= 20
	for _, f := range d.Files {
		ok = ok && len(f.Data) <= 20000 && 0 <= f.Safe && f.Safe <= len(f.Data)
	}
	var first []int // the files in the order of their first occurrence
	for _, l := range [][]Entry{d.Now, d.Kept} {
		files := map[int]int{}
		for i, e := range l {
			ok = ok && len(e.Name) >= 1 && len(e.Name) <= 16 && (i == 0 || bytes.Compare([]byte(l[i-1].Name), []byte(e.Name)) < 0)
			ok = ok && 0 <= e.File && e.File < len(d.Files)
			files[e.File]++
			ok = ok && files[e.File] == 1
			if !slices.Contains(first, e.File) {
				first = append(first, e.File)
			}
		}
	}
	for i, f := range first {
		ok = ok && i == f
	}
	return ok && len(first) == len(d.Files)
}

// same: are two disks alike? Nil and empty lists are.
func same(d, c Disk) bool {
	return slices.EqualFunc(d.Files, c.Files, func(f, g File) bool { return bytes.Equal(f.Data, g.Data) && f.Safe == g.Safe }) &&
		slices.Equal(d.Now, c.Now) && slices.Equal(d.Kept, c.Kept)
}
