// Package addr has addresses, their texts, and prefixes.
package addr

import (
	"strconv"
	"strings"

	"boarder/api"
)

const (
	width    = 32  // bits of an address
	parts    = 4   // of an address's text
	maxPart  = 255 // the greatest part
	maxChars = 3   // digits of the greatest part
)

// Right: is it an address?
func Right(a int) bool {
	return a >= 0 && a <= api.MaxAddr
}

// Text answers an address's text.
func Text(a int) (string, api.Errno) {
	if !Right(a) {
		return "", api.ErrArg
	}
	s := strconv.Itoa(a >> 24)
	for _, shift := range [...]int{16, 8, 0} {
		s += "." + strconv.Itoa(a>>shift&maxPart)
	}
	return s, api.OK
}

// Parse answers the address of a text.
func Parse(s string) (int, api.Errno) {
	// Counted ahead, so that a long text that is no address is not cut up for nothing.
	if countParts(s) != parts {
		return 0, api.ErrForm
	}
	a := 0
	for _, p := range strings.Split(s, ".") {
		v, ok := parsePart(p)
		if !ok {
			return 0, api.ErrForm
		}
		a = a<<8 | v
	}
	return a, api.OK
}

// countParts answers how many parts the dots of a text set apart, empty ones included.
func countParts(s string) int {
	n := 1
	for _, r := range s {
		if r == '.' {
			n++
		}
	}
	return n
}

// parsePart answers the number of one part. strconv is not asked: it takes signs and leading zeros too.
func parsePart(p string) (int, bool) {
	if p == "" || len(p) > maxChars {
		return 0, false
	}
	if p[0] == '0' && len(p) > 1 {
		return 0, false
	}
	v := 0
	for _, r := range p {
		if r < '0' || r > '9' {
			return 0, false
		}
		v = v*10 + int(r-'0')
	}
	if v > maxPart {
		return 0, false
	}
	return v, true
}

// rightBits: may a prefix have so many bits?
func rightBits(bits int) bool {
	return bits >= 0 && bits <= width
}

// size answers how many addresses a prefix contains. A shift by a number below 0 would panic: bits must be right.
func size(bits int) int {
	return 1 << (width - bits)
}

// Fair: is a prefix right?
func Fair(base, bits int) bool {
	return rightBits(bits) && Right(base) && base%size(bits) == 0
}

// Mask answers the mask of bits.
func Mask(bits int) (int, api.Errno) {
	if !rightBits(bits) {
		return 0, api.ErrArg
	}
	return api.MaxAddr + 1 - size(bits), api.OK
}

// Has: has a prefix an address?
func Has(base, bits, a int) bool {
	return Fair(base, bits) && Right(a) && a-a%size(bits) == base
}

// Last answers a prefix's greatest address.
func Last(base, bits int) (int, api.Errno) {
	if !Fair(base, bits) {
		return 0, api.ErrArg
	}
	return base + size(bits) - 1, api.OK
}

// Meet: do two prefixes meet?
func Meet(base, bits, base2, bits2 int) bool {
	if !Fair(base, bits) || !Fair(base2, bits2) {
		return false
	}
	// Prefixes never overlap in part: where they meet, one contains the other's base.
	return Has(base, bits, base2) || Has(base2, bits2, base)
}
