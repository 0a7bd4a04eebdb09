package disk

import (
	"bytes"
	"slices"
)

// normalizer is a disk whose files are numbered anew, in the order in which its names first come upon them.
type normalizer struct {
	Disk
	order []int // the files' old numbers, each at its new one
}

// number answers a file's new number: the next one, if it has none yet.
func (n *normalizer) number(file int) int {
	i := slices.Index(n.order, file)
	if i < 0 {
		i = len(n.order)
		n.order = append(n.order, file)
	}
	return i
}

// renumbered answers a list with the new numbers, as memory of its own.
func (n *normalizer) renumbered(l []Entry) []Entry {
	var answer []Entry
	for _, e := range l {
		answer = append(answer, Entry{Name: e.Name, File: n.number(e.File)})
	}
	return answer
}

// stays: are the new numbers of a list its old ones?
func (n *normalizer) stays(l []Entry) bool {
	return !slices.ContainsFunc(l, func(e Entry) bool { return n.number(e.File) != e.File })
}

// normalize answers a disk with its files numbered anew, and without those that no name has. The numbers of its entries must be those of files. All of it is memory of its own, so that a call may hand in what it shares with its argument.
func normalize(d Disk) Disk {
	n := normalizer{Disk: d}
	now := n.renumbered(n.Now)
	kept := n.renumbered(n.Kept)
	var files []File
	for _, old := range n.order {
		f := n.Files[old]
		files = append(files, File{Data: bytes.Clone(f.Data), Safe: f.Safe})
	}
	return Disk{Files: files, Now: now, Kept: kept}
}

// normalized: would normalize leave a disk as it is?
func normalized(d Disk) bool {
	n := normalizer{Disk: d}
	return n.stays(n.Now) && n.stays(n.Kept) && len(n.order) == len(n.Files)
}
