package store

import (
	"encoding/binary"
	"hash/crc32"
	"maps"
	"slices"

	"boarder/api"
	"boarder/disk"
)

// handRight: is a lease valid, by the words of the chapters 7 and 9?
func handRight(l api.Lease) bool {
	n := len(l.Key)
	return l.Addr >= 0 && l.Addr < 1<<32 && l.State >= 1 && l.State <= 3 && l.Expiry >= 0 && l.Expiry <= 1<<50 &&
		n >= 3 && (l.Key[0] == 'i' && n <= 256 || l.Key[0] == 'h' && n <= 18)
}

// handTable: is a list a table, by the words of chapter 12?
func handTable(l []api.Lease) bool {
	ok := len(l) <= 64
	for i, x := range l {
		ok = ok && handRight(x) && (i == 0 || l[i-1].Addr < x.Addr)
	}
	return ok
}

// handLast answers the latest leases, by the words of chapter 11.
func handLast(l []api.Lease) []api.Lease {
	latest := map[int]api.Lease{}
	for _, x := range l {
		latest[x.Addr] = x
	}
	var answer []api.Lease
	for _, a := range slices.Sorted(maps.Keys(latest)) {
		answer = append(answer, latest[a])
	}
	return answer
}

// handSet answers a table with a lease, by the words of chapter 12, and whether that can be.
func handSet(t []api.Lease, l api.Lease) ([]api.Lease, bool) {
	if !handTable(t) {
		t = nil
	}
	t = handLast(append(slices.Clone(t), l))
	return t, handRight(l) && len(t) <= 64
}

// handRead answers the leases of a journal of these bytes, by the words of chapter 10, with the length of its intact part.
func handRead(b []byte) (l []api.Lease, n int, e api.Errno) {
	for n < len(b) {
		rest := b[n:]
		if len(rest) < 6 {
			return l, n, api.ErrMore
		}
		size := int(binary.BigEndian.Uint16(rest))
		if size <= 2000 && len(rest) < 6+size {
			return l, n, api.ErrMore
		}
		if size > 2000 || size < 12 || crc32.ChecksumIEEE(rest[6:6+size]) != binary.BigEndian.Uint32(rest[2:]) {
			return nil, 0, api.ErrForm
		}
		held := rest[6 : 6+size]
		x := api.Lease{Addr: int(binary.BigEndian.Uint32(held)), State: int(held[4]), Expiry: int(binary.BigEndian.Uint64(held[4:]) % (1 << 56)), Key: string(held[12:])}
		if !handRight(x) {
			return nil, 0, api.ErrForm
		}
		l, n = append(l, x), n+6+size
	}
	return l, n, api.OK
}

// model is a disk by the words of chapter 8: two directories of names, some of which are of one file.
type model struct {
	now, kept map[string]*disk.File
}

// modelOf answers a disk's model: that of the zero disk, if it is not valid.
func modelOf(d disk.Disk) model {
	m := model{map[string]*disk.File{}, map[string]*disk.File{}}
	if !disk.Right(d) {
		return m
	}
	var files []*disk.File
	for _, f := range d.Files {
		files = append(files, &disk.File{Data: slices.Clone(f.Data), Safe: f.Safe})
	}
	for _, e := range d.Now {
		m.now[e.Name] = files[e.File]
	}
	for _, e := range d.Kept {
		m.kept[e.Name] = files[e.File]
	}
	return m
}

// disk answers the disk of a model: its files are numbered as they occur.
func (m model) disk() disk.Disk {
	var d disk.Disk
	numbers := map[*disk.File]int{}
	list := func(names map[string]*disk.File) (l []disk.Entry) {
		for _, name := range slices.Sorted(maps.Keys(names)) {
			f := names[name]
			if _, known := numbers[f]; !known {
				numbers[f] = len(d.Files)
				d.Files = append(d.Files, *f)
			}
			l = append(l, disk.Entry{Name: name, File: numbers[f]})
		}
		return l
	}
	d.Now = list(m.now)
	d.Kept = list(m.kept)
	return d
}

// appended puts bytes behind those of a file, and answers whether there was room.
func (m model) appended(name string, b []byte) bool {
	f := m.now[name]
	if f == nil {
		if len(m.disk().Files) == 20 || len(b) > 20000 {
			return false
		}
		f = &disk.File{}
		m.now[name] = f
	}
	if len(f.Data)+len(b) > 20000 {
		return false
	}
	f.Data = append(f.Data, b...)
	return true
}

func (m model) synced(name string) bool {
	m.now[name].Safe = len(m.now[name].Data)
	return true
}

func (m model) dirSynced() bool {
	clear(m.kept)
	maps.Copy(m.kept, m.now)
	return true
}

// step is a change of a model. It answers whether it could be made.
type step func(m model) bool

// performed answers a disk after so many of the steps at most, or all of them that can be made, and how many were.
func performed(d disk.Disk, steps []step, fuel int) (disk.Disk, int) {
	m := modelOf(d)
	for i, s := range steps {
		if i == fuel || !s(m) {
			return m.disk(), i
		}
	}
	return m.disk(), len(steps)
}

// putSteps answers what P10.4 says is done with a disk to store a lease, and whether it can be done.
func putSteps(d disk.Disk, l api.Lease) ([]step, bool) {
	m := modelOf(d)
	j := m.now["j"]
	if j != nil {
		if _, _, e := handRead(j.Data); e != api.OK {
			return nil, false
		}
	}
	steps := []step{
		func(m model) bool { return m.appended("j", frames(l)) },
		func(m model) bool { return m.synced("j") },
	}
	if j == nil || m.kept["j"] != j {
		steps = append(steps, model.dirSynced)
	}
	return steps, true
}

// handPut answers what P20.2 says, by the words of the chapters alone.
func handPut(s Store, l api.Lease, fuel int) (Store, int, bool) {
	t, ok := handSet(s.T, l)
	if !ok {
		return s, 0, false
	}
	steps, ok := putSteps(s.D, l)
	if !ok {
		return s, 0, false
	}
	d, n := performed(s.D, steps, fuel)
	if n < len(steps) {
		return Store{T: s.T, D: d}, n, false
	}
	return Store{T: t, D: d}, n, true
}

// handDue: is it time, by the words of P11.2?
func handDue(d disk.Disk, many int) bool {
	j := modelOf(d).now["j"]
	if j == nil {
		return false
	}
	l, _, e := handRead(j.Data)
	return e == api.OK && len(l) > many && len(l) > len(handLast(l))
}

// cleanSteps answers what P11.1 says is done with a disk to replace its journal, and whether it can be done.
func cleanSteps(d disk.Disk, l []api.Lease) ([]step, bool) {
	for _, x := range l {
		if !handRight(x) {
			return nil, false
		}
	}
	b := frames(l...)
	steps := []step{
		func(m model) bool { return m.appended("k", b) },
		func(m model) bool { return m.synced("k") },
		func(m model) bool {
			m.now["j"] = m.now["k"]
			delete(m.now, "k")
			return true
		},
		model.dirSynced,
	}
	if modelOf(d).now["k"] != nil {
		removed := func(m model) bool {
			delete(m.now, "k")
			return true
		}
		steps = append([]step{removed}, steps...)
	}
	return steps, len(b) <= 20000
}

// handClean answers what P20.3 says, by the words of the chapters alone.
func handClean(s Store, many, fuel int) (Store, int, bool) {
	if !handDue(s.D, many) {
		return s, 0, true
	}
	steps, ok := cleanSteps(s.D, s.T)
	if !ok {
		return s, 0, false
	}
	d, n := performed(s.D, steps, fuel)
	return Store{T: s.T, D: d}, n, n == len(steps)
}

// handOpen answers what P20.1 says, by the words of the chapters alone.
func handOpen(d disk.Disk) (Store, api.Errno) {
	m := modelOf(d)
	var l []api.Lease
	if j := m.now["j"]; j != nil {
		read, n, e := handRead(j.Data)
		if e == api.ErrForm {
			return Store{}, e
		}
		j.Data, j.Safe, l = j.Data[:n], n, read
	}
	delete(m.now, "k")
	m.dirSynced()
	t := handLast(l)
	if len(t) > 64 {
		return Store{}, api.ErrFull
	}
	return Store{T: t, D: m.disk()}, api.OK
}
