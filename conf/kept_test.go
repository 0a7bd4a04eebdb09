package conf

import (
	"math"
	"math/rand"
	"strings"
	"testing"

	"boarder/api"
)

// keptFors: does KeptFor answer just this?
func keptFors(t *testing.T, c api.Config, net int, k string, want int, ok bool) {
	t.Helper()
	if a, there := KeptFor(c, net, k); a != want || there != ok {
		t.Errorf("KeptFor %.20q in the network %d: %d, %v, not %d, %v: in %s", k, net, a, there, want, ok, tell(c))
	}
}

// keepers: does Keeper answer just this?
func keepers(t *testing.T, c api.Config, a int, want string, ok bool) {
	t.Helper()
	if k, there := Keeper(c, a); k != want || there != ok {
		t.Errorf("Keeper of %d: %.20q, %v, not %.20q, %v: in %s", a, k, there, want, ok, tell(c))
	}
}

// inPools: does InPool answer just this?
func inPools(t *testing.T, c api.Config, net, a int, want bool) {
	t.Helper()
	if got := InPool(c, net, a); got != want {
		t.Errorf("InPool of %d in the network %d: %v: in %s", a, net, got, tell(c))
	}
}

// handKeepers answers the reservations of a valid configuration by their addresses.
func handKeepers(c api.Config) map[int]string {
	all := map[int]string{}
	if handCheck(c) != api.OK {
		return all
	}
	for _, n := range c.Nets {
		for _, s := range n.Subnets {
			for _, r := range s.Res {
				all[r.Addr] = r.Key
			}
		}
	}
	return all
}

// handKept answers what P13.3 says.
func handKept(c api.Config, net int, k string) (int, bool) {
	for a, keeper := range handKeepers(c) { // at most one fits
		if keeper == k && handFind(c, a).net == net {
			return a, true
		}
	}
	return 0, false
}

// handInPool answers what P13.3 says.
func handInPool(c api.Config, net, a int) bool {
	p := handFind(c, a)
	if !p.ok || p.net != net {
		return false
	}
	for _, r := range c.Nets[p.net].Subnets[p.sub].Pools {
		if r.First <= a && a <= r.Last {
			return true
		}
	}
	return false
}

func TestKeptForWords(t *testing.T) { // P13.3: written out by hand: in each network, and in none
	keptFors(t, plain(), 0, "i01", ten+5, true)
	keptFors(t, plain(), 0, "i02", 0, false)
	keptFors(t, plain(), 1, "i01", 0, false)
	c := wide()
	keptFors(t, c, 0, "i01", ten+15, true)
	keptFors(t, c, 0, "hab", ten+5, true)
	keptFors(t, c, 0, "h\x01\x02\x00\x00\x00\x00\x07", ten+254, true)
	keptFors(t, c, 0, "i02", 0, false) // the network 1 has it
	keptFors(t, c, 1, "i01", 77, true)
	keptFors(t, c, 1, "i02", 1<<24-2, true)
	keptFors(t, c, 1, "hab", ten+257, true)
	keptFors(t, c, 1, "h\x01\x02\x00\x00\x00\x00\x07", 0, false) // the network 0 has it
	keptFors(t, c, 2, "i"+strings.Repeat("\xff", 255), api.MaxAddr-1, true)
	keptFors(t, c, 2, "i01", 0, false)
	keptFors(t, c, 2, "hab", 0, false)
	for _, net := range []int{math.MinInt, -2, -1, 3, 4, 256, 1 << 32, 1<<32 + 1, math.MaxInt} {
		for _, k := range keysAround(c) {
			keptFors(t, c, net, k, 0, false)
		}
	}
	for _, k := range append(wrongKeys(), "iab", "h01", "I01", "i01\x00", "ha", "habx", "h\x01\x02\x00\x00\x00\x00\x06") {
		for net := range 3 {
			keptFors(t, c, net, k, 0, false)
		}
	}
}

func TestKeptFor(t *testing.T) { // P13.3: all keys around those of a configuration, in all networks
	for _, c := range valids() {
		for _, k := range keysAround(c) {
			for _, net := range netsAround(c) {
				a, ok := handKept(c, net, k)
				keptFors(t, c, net, k, a, ok)
			}
		}
	}
	for i, n := range full().Nets {
		for _, s := range n.Subnets {
			for _, r := range s.Res {
				keptFors(t, full(), i, r.Key, r.Addr, true)
			}
		}
	}
}

func TestKeeperWords(t *testing.T) { // P13.3: written out by hand: below, between and above what is reserved
	for a, want := range map[int]string{ten + 5: "hab", ten + 15: "i01", ten + 254: "h\x01\x02\x00\x00\x00\x00\x07", 77: "i01", 1<<24 - 2: "i02", ten + 257: "hab", api.MaxAddr - 1: "i" + strings.Repeat("\xff", 255)} {
		keepers(t, wide(), a, want, true)
		for _, b := range []int{a - 1, a + 1, a + 1<<32, a - 1<<32, -a} {
			keepers(t, wide(), b, "", false)
		}
	}
	for _, a := range append(edges(), ten, ten+1, ten+2, ten+10, ten+20, ten+100, ten+255, ten+1<<16) { // the Server, routers, pools and a base among them
		if a != api.MaxAddr-1 {
			keepers(t, wide(), a, "", false)
		}
	}
	keepers(t, plain(), ten+5, "i01", true)
	keepers(t, plain(), ten+4, "", false)
	keepers(t, plain(), ten+6, "", false)
	keepers(t, plain(), 0, "", false)
}

func TestKeeper(t *testing.T) { // P13.3: all addresses around those of a configuration
	for _, c := range valids() {
		m := handKeepers(c)
		for _, a := range addrsAround(c) {
			k, ok := m[a]
			keepers(t, c, a, k, ok)
		}
	}
}

func TestInPoolWords(t *testing.T) { // P13.3: written out by hand: below, at the edges, between and above
	for a, net := range map[int]int{
		ten + 10: 0, ten + 11: 0, ten + 15: 0, ten + 20: 0, ten + 21: 0, ten + 100: 0, ten + 126: 0, ten + 129: 0, ten + 200: 0,
		1: 1, 77: 1, 1 << 23: 1, 1<<24 - 2: 1, api.MaxAddr - 2: 2,
	} {
		for _, n := range netsAround(wide()) {
			inPools(t, wide(), n, a, n == net)
		}
	}
	for _, a := range []int{
		math.MinInt, -1, 0, 1<<24 - 1, 1 << 24, ten, ten + 1, ten + 5, ten + 9, ten + 22, ten + 99, ten + 127, ten + 128, ten + 201, ten + 254, ten + 255, ten + 256, ten + 257, ten + 258, ten + 1<<16 + 1,
		api.MaxAddr - 6, api.MaxAddr - 3, api.MaxAddr - 1, api.MaxAddr, 1<<32 + 1, 1<<32 + ten + 15, ten + 15 - 1<<32, math.MaxInt,
	} {
		for _, n := range netsAround(wide()) {
			inPools(t, wide(), n, a, false)
		}
	}
	for a, want := range map[int]bool{ten + 9: false, ten + 10: true, ten + 15: true, ten + 20: true, ten + 21: false, ten + 5: false} {
		inPools(t, plain(), 0, a, want)
		inPools(t, plain(), 1, a, false)
		inPools(t, plain(), -1, a, false)
	}
}

func TestInPool(t *testing.T) { // P13.3: all addresses around those of a configuration, in all networks
	for _, c := range valids() {
		for _, a := range addrsAround(c) {
			for net := -1; net <= len(c.Nets); net++ {
				inPools(t, c, net, a, handInPool(c, net, a))
			}
		}
	}
}

func TestNothingKept(t *testing.T) { // P13.3: in a configuration that is not valid
	for _, c := range invalids() {
		for net := -1; net < 5; net++ {
			keptFors(t, c, net, "i01", 0, false)
			keptFors(t, c, net, "i\x00\x00", 0, false)
			inPools(t, c, net, ten+15, false)
		}
		for i, n := range c.Nets[:min(len(c.Nets), 5)] {
			for _, s := range n.Subnets[:min(len(n.Subnets), 5)] {
				for _, r := range s.Res {
					keptFors(t, c, i, r.Key, 0, false)
					keepers(t, c, r.Addr, "", false)
				}
				for _, p := range s.Pools {
					inPools(t, c, i, p.First, false)
					inPools(t, c, i, p.Last, false)
				}
			}
		}
	}
}

func TestKeptAny(t *testing.T) { // P13.3, P0: any configurations, networks, keys and addresses
	r := rand.New(rand.NewSource(133))
	seen := map[bool]int{}
	for range 4000 {
		c := randomConfig(r)
		for range r.Intn(3) * r.Intn(2) {
			spoilAny(r, &c)
		}
		m := handKeepers(c)
		for _, net := range []int{-1, 0, 1, 2, 3, r.Intn(9), int(r.Uint64())} {
			for _, k := range []string{"i01", "i02", "hab", "iab", "h01", "i03", "i04", "i05", "", "i"} {
				a, ok := handKept(c, net, k)
				seen[ok]++
				keptFors(t, c, net, k, a, ok)
			}
		}
		for _, a := range addrsAround(c) {
			k, ok := m[a]
			keepers(t, c, a, k, ok)
			net := r.Intn(5) - 1
			inPools(t, c, net, a, handInPool(c, net, a))
		}
	}
	if seen[true] < 1000 || seen[false] < 1000 {
		t.Errorf("too few of one kind: %v", seen)
	}
}
