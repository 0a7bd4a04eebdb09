package conf

import (
	"math"
	"math/rand"
	"testing"

	"boarder/api"
)

// spot is what Find and OnWire answer.
type spot struct {
	net, sub int
	ok       bool
}

// finds: does Find answer just this?
func finds(t *testing.T, c api.Config, a int, want spot) {
	t.Helper()
	if n, s, ok := Find(c, a); want != (spot{n, s, ok}) {
		t.Errorf("Find of %d: %d, %d, %v, not %v: in %s", a, n, s, ok, want, tell(c))
	}
}

// onWires: does OnWire answer just this?
func onWires(t *testing.T, c api.Config, iface int, want spot) {
	t.Helper()
	if n, s, ok := OnWire(c, iface); want != (spot{n, s, ok}) {
		t.Errorf("OnWire of %d: %d, %d, %v, not %v: in %s", iface, n, s, ok, want, tell(c))
	}
}

// handSpot answers the first subnet of a configuration that is wanted, if the configuration is valid.
func handSpot(c api.Config, wanted func(s api.Subnet) bool) spot {
	var all []spot
	for i, n := range c.Nets {
		for j, s := range n.Subnets {
			if wanted(s) {
				all = append(all, spot{i, j, true})
			}
		}
	}
	if handCheck(c) != api.OK || len(all) == 0 {
		return spot{}
	}
	return all[0]
}

// handFind answers what P13.2 says.
func handFind(c api.Config, a int) spot {
	return handSpot(c, func(s api.Subnet) bool { return a >= s.Base && a-s.Base < handSize(s.Bits) })
}

// handOnWire answers what P13.2 says.
func handOnWire(c api.Config, iface int) spot {
	return handSpot(c, func(s api.Subnet) bool { return iface >= 1 && s.Iface == iface })
}

// ifaces answers all interfaces that may be, and numbers that are none.
func ifaces() []int {
	all := []int{math.MinInt, math.MinInt + 1, -1 << 32, -7, -1, 1 << 32, 1<<32 + 7, math.MaxInt}
	for i := range 300 {
		all = append(all, i)
	}
	return all
}

func TestFindWords(t *testing.T) { // P13.2: written out by hand: below, at the edges, between and above
	for a, want := range map[int]spot{
		ten - 1: {}, ten: {0, 0, true}, ten + 1: {0, 0, true}, ten + 99: {0, 0, true}, ten + 127: {0, 0, true},
		ten + 128: {0, 1, true}, ten + 129: {0, 1, true}, ten + 255: {0, 1, true},
		ten + 256: {1, 1, true}, ten + 258: {1, 1, true}, ten + 259: {1, 1, true}, ten + 260: {}, ten + 1000: {}, ten + 1<<16 - 1: {},
		ten + 1<<16: {0, 2, true}, ten + 1<<17 - 1: {0, 2, true}, ten + 1<<17: {},
		-1: {}, 0: {1, 0, true}, 1: {1, 0, true}, 1<<24 - 1: {1, 0, true}, 1 << 24: {},
		api.MaxAddr - 8: {}, api.MaxAddr - 7: {2, 1, true}, api.MaxAddr - 4: {2, 1, true}, api.MaxAddr - 3: {2, 0, true}, api.MaxAddr: {2, 0, true}, api.MaxAddr + 1: {},
		1 << 31: {}, 1<<32 + ten: {}, ten - 1<<32: {}, math.MinInt: {}, math.MaxInt: {},
	} {
		finds(t, wide(), a, want)
	}
	for a, want := range map[int]spot{ten - 1: {}, ten: {0, 0, true}, ten + 99: {0, 0, true}, ten + 255: {0, 0, true}, ten + 256: {}, 0: {}} {
		finds(t, plain(), a, want)
	}
	for _, a := range addrsAround(wide()) {
		finds(t, api.Config{Server: 1, Probation: 1}, a, spot{})
	}
}

func TestFind(t *testing.T) { // P13.2: all addresses around those of a configuration
	for _, c := range valids() {
		for _, a := range addrsAround(c) {
			finds(t, c, a, handFind(c, a))
		}
	}
	for i, n := range full().Nets {
		for j, s := range n.Subnets {
			for a := s.Base; a < s.Base+256; a++ {
				finds(t, full(), a, spot{i, j, true})
			}
		}
	}
}

func TestOnWireWords(t *testing.T) { // P13.2: written out by hand: no subnet, one and several, the interface 0 of some
	for iface, want := range map[int]spot{
		0: {}, 1: {}, 2: {}, 3: {0, 2, true}, 4: {}, 6: {}, 7: {0, 0, true}, 8: {}, 98: {}, 99: {2, 0, true}, 100: {},
		-1: {}, -7: {}, 256 + 7: {}, 1<<32 + 7: {}, math.MinInt: {}, math.MaxInt: {},
	} {
		onWires(t, wide(), iface, want)
	}
	onWires(t, plain(), 0, spot{})
	onWires(t, plain(), 1, spot{0, 0, true})
	onWires(t, plain(), 2, spot{})
	subnet := func(n, iface int) api.Subnet {
		return api.Subnet{Base: ten + 4*n, Bits: 30, Iface: iface, Time: 1}
	}
	c := nets([]api.Subnet{subnet(9, 0), subnet(8, 5)}, []api.Subnet{subnet(7, 6), subnet(6, 4), subnet(5, 6), subnet(4, 4)}, []api.Subnet{subnet(1, 0)})
	for iface, want := range map[int]spot{0: {}, 1: {}, 4: {1, 1, true}, 5: {0, 1, true}, 6: {1, 0, true}, 7: {}} {
		onWires(t, c, iface, want)
	}
}

func TestOnWire(t *testing.T) { // P13.2: all interfaces
	for _, c := range valids() {
		for _, iface := range ifaces() {
			onWires(t, c, iface, handOnWire(c, iface))
		}
	}
	onWires(t, api.Config{Server: 1, Probation: 1}, 1, spot{})
}

func TestNothingFound(t *testing.T) { // P13.2: in a configuration that is not valid
	for _, c := range invalids() {
		for _, a := range append(addrsAround(plain()), c.Server, ten+1<<16+60, ten+5<<8) {
			finds(t, c, a, spot{})
		}
		for iface := range 101 {
			onWires(t, c, iface, spot{})
		}
		for _, n := range c.Nets[:min(len(c.Nets), 5)] {
			for _, s := range n.Subnets[:min(len(n.Subnets), 5)] {
				finds(t, c, s.Base+1, spot{})
				onWires(t, c, s.Iface, spot{})
			}
		}
	}
}

func TestFindAny(t *testing.T) { // P13.2, P0: any configurations, addresses and interfaces
	r := rand.New(rand.NewSource(132))
	seen := map[bool]int{}
	for range 4000 {
		c := randomConfig(r)
		for range r.Intn(3) * r.Intn(2) {
			spoilAny(r, &c)
		}
		for _, a := range addrsAround(c) {
			want := handFind(c, a)
			seen[want.ok]++
			finds(t, c, a, want)
		}
		for iface := -1; iface < 12; iface++ {
			onWires(t, c, iface, handOnWire(c, iface))
		}
	}
	if seen[true] < 10000 || seen[false] < 10000 {
		t.Errorf("too few of one kind: %v", seen)
	}
}
