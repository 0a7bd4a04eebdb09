package store

import (
	"slices"
	"testing"

	"boarder/api"
	"boarder/disk"
)

// journals answers the leases of journals, in order: of none, of some addresses several, and of as many addresses as a table may have.
func journals() [][]api.Lease {
	back := row(64)
	slices.Reverse(back)
	return [][]api.Lease{nil, {leaseA}, {leaseA, laterA}, {laterA, leaseA}, {leaseC, leaseB, leaseA, laterB}, someLease, slices.Concat(someLease, someLease, someLease[:3]), back, append(row(64), back...), filling(api.MaxBytes)}
}

func TestOpenWords(t *testing.T) { // P20.1: written out by hand
	lease, torn, corrupt := unhex(frameA), unhex(frameA+"000901"), unhex(frameA+"07d100000000")
	lasts := Store{T: []api.Lease{leaseA}, D: lasting(lease)}
	empty := Store{D: lasting(nil)}
	opens(t, disk.Disk{}, Store{}, api.OK)
	opens(t, lasting(nil), empty, api.OK)
	opens(t, lasting(lease), lasts, api.OK)
	opens(t, disk.Disk{Files: []disk.File{file(lease, false)}, Now: names("j0")}, lasts, api.OK)
	opens(t, lasting(torn), lasts, api.OK)
	opens(t, disk.Disk{Files: []disk.File{file(torn, false)}, Now: names("j0")}, lasts, api.OK)
	opens(t, lasting(lease[:20]), empty, api.OK)
	opens(t, lasting(corrupt), Store{}, api.ErrForm)
	opens(t, lasting(corrupt[21:]), Store{}, api.ErrForm)
	opens(t, lasting(unhex(frameA+"0001d202ef8d00")), Store{}, api.ErrForm) // a frame that holds no lease
	opens(t, disk.Disk{Files: []disk.File{file(lease, true), text("draft")}, Now: names("j0 k1"), Kept: names("j0 k1")}, lasts, api.OK)
	opens(t, disk.Disk{Files: []disk.File{file(lease, true)}, Now: names("k0"), Kept: names("j0")}, Store{}, api.OK)
	opens(t, disk.Disk{Files: []disk.File{file(lease, true)}, Kept: names("j0")}, Store{}, api.OK)

	latest := []api.Lease{laterA, leaseB, leaseC}
	b := frames(leaseC, leaseA, leaseB, laterA)
	opens(t, lasting(b), Store{T: latest, D: lasting(b)}, api.OK)
}

func TestOpen(t *testing.T) { // P20.1, R4: every journal on every disk
	for _, l := range journals() {
		b := frames(l...)
		for _, d := range slices.Concat(settled(b), unsettled(b), without(), lost(), fullDisks(b)) {
			want, e := handOpen(d)
			if e != api.OK {
				t.Fatalf("%s: error %d", tell(Store{D: d}), e)
			}
			opens(t, d, want, api.OK)
			opens(t, d, want, api.OK)
			opens(t, want.D, want, api.OK)
		}
		for _, d := range append(settled(b), unsettled(b)...) {
			if s, e := Open(d); e != api.OK || !slices.Equal(s.T, handLast(l)) {
				t.Errorf("%s: %v, not %v", tell(Store{D: d}), s.T, handLast(l))
			}
		}
	}
}

func TestOpenFaulty(t *testing.T) { // P20.1: a torn journal, whose leases are known, and each error of a corrupt one
	for _, l := range journals()[:8] {
		for _, end := range tornEnds() {
			b := slices.Concat(frames(l...), end)
			for _, d := range append(settled(b), unsettled(b)...) {
				want, _ := handOpen(d)
				want.T = handLast(l)
				opens(t, d, want, api.OK)
			}
		}
		for _, end := range corruptEnds() {
			b := slices.Concat(frames(l...), end)
			behind := slices.Concat(end, frames(l...))
			for _, d := range slices.Concat(settled(b), unsettled(b), settled(behind), unsettled(behind)) {
				opens(t, d, Store{}, api.ErrForm)
			}
		}
	}
}

func TestOpenAtAnyByte(t *testing.T) { // P20.1: a journal that ends anywhere
	l := []api.Lease{leaseB, leaseA, laterA, longest}
	b := frames(l...)
	for n := range len(b) + 1 {
		whole := 0
		for whole < len(l) && len(frames(l[:whole+1]...)) <= n {
			whole++
		}
		opens(t, lasting(b[:n]), Store{T: handLast(l[:whole]), D: lasting(frames(l[:whole]...))}, api.OK)
	}
}

func TestOpenMany(t *testing.T) { // P20.1: latest leases of as many addresses as a table may have, and of one more
	for n := 62; n <= 70; n++ {
		l := row(n)
		for _, journal := range [][]api.Lease{l, append(row(60), l...), append(slices.Clone(l), at(12, 900), at(10, 901), at(12, 902))} {
			for _, end := range [][]byte{nil, {0}, frames(leaseC)[:9]} {
				b := slices.Concat(frames(journal...), end)
				for _, d := range append(settled(b), unsettled(b)...) {
					if n > 64 {
						opens(t, d, Store{}, api.ErrFull)
						continue
					}
					want, _ := handOpen(d)
					want.T = handLast(journal)
					opens(t, d, want, api.OK)
				}
			}
			// A corrupt one is that, however many addresses there are.
			opens(t, lasting(append(frames(journal...), 255, 255, 0, 0, 0, 0)), Store{}, api.ErrForm)
		}
	}
}

func TestOpenWrongDisk(t *testing.T) { // P20.1, P0: as the zero disk
	for _, d := range wrongDisks() {
		opens(t, d, Store{}, api.OK)
	}
}
