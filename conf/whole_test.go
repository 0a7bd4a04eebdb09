package conf

import (
	"fmt"
	"math/rand"
	"testing"

	"boarder/addr"
	"boarder/api"
)

// holders answers how many subnets have an address, and how many keys it is reserved for.
func holders(c api.Config, a int) (int, int) {
	subnets, keys := 0, map[string]int{}
	for _, n := range c.Nets {
		for _, s := range n.Subnets {
			if addr.Has(s.Base, s.Bits, a) {
				subnets++
			}
			for _, r := range s.Res {
				if r.Addr == a {
					keys[r.Key]++
				}
			}
		}
	}
	return subnets, len(keys)
}

// consistent: does P13.4 hold for these addresses?
func consistent(t *testing.T, c api.Config, addrs []int) {
	t.Helper()
	for _, a := range addrs {
		if subnets, keys := holders(c, a); subnets > 1 || keys > 1 {
			t.Fatalf("%d is in %d subnets and reserved for %d clients: in %s", a, subnets, keys, tell(c))
		}
		found, _, ok := Find(c, a)
		for net := range c.Nets {
			if InPool(c, net, a) && (!ok || found != net) {
				t.Fatalf("%d is in a pool of the network %d, but found in %d, %v: in %s", a, net, found, ok, tell(c))
			}
			k, _ := Keeper(c, a)
			if kept, there := KeptFor(c, net, k); there && kept == a && (!ok || found != net) {
				t.Fatalf("%d is reserved in the network %d, but found in %d, %v: in %s", a, net, found, ok, tell(c))
			}
		}
	}
}

func TestConsistent(t *testing.T) { // P13.4
	for _, c := range valids() {
		consistent(t, c, addrsAround(c))
	}
	r := rand.New(rand.NewSource(134))
	whole := 0
	for range 800 {
		c := randomConfig(r)
		if Check(c) == api.OK {
			whole++
			var addrs []int
			for a := ten - 1; a < ten+514; a += 1 + r.Intn(5) {
				addrs = append(addrs, a)
			}
			consistent(t, c, addrs)
		}
	}
	if whole < 200 {
		t.Errorf("too few valid configurations: %d", whole)
	}
}

func TestNamedIsFound(t *testing.T) { // P13.4: what a network names is found in it, and for its client alone
	for _, c := range valids() {
		for i, n := range c.Nets {
			for j, s := range n.Subnets {
				for _, r := range s.Res {
					finds(t, c, r.Addr, spot{i, j, true})
					keepers(t, c, r.Addr, r.Key, true)
					keptFors(t, c, i, r.Key, r.Addr, true)
				}
				for _, p := range s.Pools {
					for _, a := range []int{p.First, p.First + (p.Last-p.First)/2, p.Last} {
						finds(t, c, a, spot{i, j, true})
						inPools(t, c, i, a, true)
					}
				}
			}
		}
	}
}

// all answers a list with what stands in its spare capacity.
func all[T any](l []T) []T {
	return l[:cap(l)]
}

// dump answers all that a configuration has in memory, its spare capacity among it.
func dump(c api.Config) string {
	s := fmt.Sprintf("%#v %d", all(c.Nets), len(c.Nets))
	for _, n := range c.Nets {
		s += fmt.Sprintf("%#v %d", all(n.Subnets), len(n.Subnets))
		for _, u := range n.Subnets {
			s += fmt.Sprintf("%#v %d %#v %d", all(u.Pools), len(u.Pools), all(u.Res), len(u.Res))
		}
	}
	return s
}

// answers has what every call says of a configuration.
func answers(c api.Config) string {
	s := fmt.Sprint(Check(c))
	say := func(x ...any) { s += fmt.Sprintln(x...) }
	for _, a := range []int{-1, 0, 77, ten, ten + 2, ten + 5, ten + 15, ten + 60, ten + 1<<16 + 60, 98<<24 + 1, 99<<24 + 1, api.MaxAddr - 2} {
		n, sub, ok := Find(c, a)
		k, kept := Keeper(c, a)
		say(n, sub, ok, k, kept)
		for net := -1; net < 5; net++ {
			say(InPool(c, net, a))
		}
	}
	for _, iface := range []int{-1, 0, 1, 7, 50, 99} {
		n, sub, ok := OnWire(c, iface)
		say(n, sub, ok)
	}
	for net := -1; net < 5; net++ {
		for _, k := range []string{"", "i01", "hab", "i\x00\x00", "ispare"} {
			a, ok := KeptFor(c, net, k)
			say(a, ok)
		}
	}
	return s
}

func TestMemory(t *testing.T) { // P0, R3: a configuration stays as it is, and its spare capacity is none of it
	for i, c := range append(valids(), invalids()...) {
		if len(c.Nets) > 9 {
			continue
		}
		d := copyOf(c)
		before := dump(d)
		if got, want := answers(d), answers(c); got != want {
			t.Fatalf("configuration %d: its spare capacity tells: %s, not %s", i, got, want)
		}
		if dump(d) != before {
			t.Fatalf("configuration %d is changed", i)
		}
	}
}

func TestNothingRetained(t *testing.T) { // P0, R3, R4: what was asked before has no effect, in the same memory either
	want := answers(full())
	for i, s := range spoilers() {
		if i%3 > 0 {
			continue // a third of them tells as much
		}
		c, d := full(), full()
		if got := answers(c); got != want {
			t.Fatalf("%d: %s, and then %s", i, want, got)
		}
		s.spoil(&c, 0, 1)
		s.spoil(&d, 0, 1)
		spoilt := answers(c)
		if got := answers(copyOf(d)); got != spoilt || got == want {
			t.Fatalf("%s: %s, not %s", s.name, spoilt, got)
		}
	}
}

func TestNil(t *testing.T) { // R3: nil and empty lists are alike
	for _, c := range []api.Config{{Server: 1, Probation: 1}, bare(ten, 24), nets(nil), many(3, 1)} {
		d := copyOf(c) // which has no nil list
		if got, want := answers(d), answers(c); got != want {
			t.Errorf("%s: %s, not %s", tell(c), got, want)
		}
	}
}

func TestLong(t *testing.T) { // R1: calls end for long lists, too
	long := bare(ten, 8)
	s := &long.Nets[0].Subnets[0]
	for i := range 1 << 18 {
		s.Pools = append(s.Pools, api.Range{First: ten + 5 + i, Last: ten + 5 + i})
		s.Res = append(s.Res, api.Res{Key: "i01", Addr: ten + 5 + i})
	}
	for _, c := range []api.Config{long, many(1<<18, 1), many(1, 1<<18), many(1<<18, 0)} {
		if Check(c) != api.ErrArg {
			t.Errorf("Check of %s", tell(c)[:99])
		}
		finds(t, c, ten+5, spot{})
		onWires(t, c, 1, spot{})
		keptFors(t, c, 0, "i01", 0, false)
		keepers(t, c, ten+5, "", false)
		inPools(t, c, 0, ten+5, false)
	}
}
