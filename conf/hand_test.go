package conf

import (
	"fmt"
	"math"
	"math/rand"
	"slices"
	"strings"
	"testing"

	"boarder/api"
)

// ten is the address 10.0.0.0.
const ten = 10 << 24

// plain answers the chapter's example.
func plain() api.Config {
	return api.Config{Server: ten + 1, Probation: 300, Nets: []api.Net{{Subnets: []api.Subnet{{
		Base: ten, Bits: 24, Pools: []api.Range{{First: ten + 10, Last: ten + 20}}, Res: []api.Res{{Key: "i01", Addr: ten + 5}}, Iface: 1, Time: 600,
	}}}}}
}

// bare answers a configuration of one subnet that has nothing but a prefix.
func bare(base, bits int) api.Config {
	return api.Config{Server: 1, Probation: 1, Nets: []api.Net{{Subnets: []api.Subnet{{Base: base, Bits: bits, Time: 1}}}}}
}

// nets answers a configuration of these networks.
func nets(all ...[]api.Subnet) api.Config {
	c := api.Config{Server: 1, Probation: 1}
	for _, l := range all {
		c.Nets = append(c.Nets, api.Net{Subnets: l})
	}
	return c
}

// wide answers a configuration of three networks: one with subnets that touch and share an interface, one without interfaces and one whose subnets end at the greatest address.
func wide() api.Config {
	c := nets(
		[]api.Subnet{
			{Base: ten, Bits: 25, Pools: []api.Range{{First: ten + 10, Last: ten + 20}, {First: ten + 21, Last: ten + 21}, {First: ten + 100, Last: ten + 126}}, Res: []api.Res{{Key: "i01", Addr: ten + 15}, {Key: "hab", Addr: ten + 5}}, Iface: 7, Router: ten + 1, Time: 600},
			{Base: ten + 128, Bits: 25, Pools: []api.Range{{First: ten + 129, Last: ten + 200}}, Res: []api.Res{{Key: "h\x01\x02\x00\x00\x00\x00\x07", Addr: ten + 254}}, Iface: 7, Router: ten + 255, Time: 60},
			{Base: ten + 1<<16, Bits: 16, Iface: 3, Time: 1},
		},
		[]api.Subnet{
			{Base: 0, Bits: 8, Pools: []api.Range{{First: 1, Last: 1<<24 - 2}}, Res: []api.Res{{Key: "i01", Addr: 77}, {Key: "i02", Addr: 1<<24 - 2}}, Time: api.MaxSpan},
			{Base: ten + 256, Bits: 30, Res: []api.Res{{Key: "hab", Addr: ten + 257}}, Time: 9},
		},
		[]api.Subnet{
			{Base: api.MaxAddr - 3, Bits: 30, Pools: []api.Range{{First: api.MaxAddr - 2, Last: api.MaxAddr - 2}}, Res: []api.Res{{Key: "i" + strings.Repeat("\xff", 255), Addr: api.MaxAddr - 1}}, Iface: 99, Router: api.MaxAddr, Time: 5},
			{Base: api.MaxAddr - 7, Bits: 30, Iface: 0, Time: 6},
		},
	)
	c.Server = ten + 2
	return c
}

// full answers a configuration that is full of networks, of subnets, of pools and of reservations. (Server, Base and keys tell the places: 10.net.sub.0.)
func full() api.Config {
	c := api.Config{Server: 9 << 24, Probation: 300}
	for i := range 4 {
		var n api.Net
		for j := range 4 {
			b := ten + i<<16 + j<<8
			s := api.Subnet{Base: b, Bits: 24, Iface: i*4 + 1 + j%2, Router: b + 100, Time: 60}
			for k := range 4 {
				s.Pools = append(s.Pools, api.Range{First: b + 50 + 10*k, Last: b + 59 + 10*k})
			}
			for k := range 8 {
				s.Res = append(s.Res, api.Res{Key: string([]byte{'i', byte(j), byte(k)}), Addr: b + 1 + 8*k})
			}
			n.Subnets = append(n.Subnets, s)
		}
		c.Nets = append(c.Nets, n)
	}
	return c
}

// many answers a configuration of so many networks with so many subnets each, which lie apart.
func many(networks, subnets int) api.Config {
	c := api.Config{Server: 1, Probation: 1, Nets: make([]api.Net, networks)}
	for i := range c.Nets {
		for j := range subnets {
			c.Nets[i].Subnets = append(c.Nets[i].Subnets, api.Subnet{Base: ten + 4*(i*subnets+j), Bits: 30, Time: 1})
		}
	}
	return c
}

// copyOf answers a configuration of its own memory, each list of it with spare capacity that is filled.
func copyOf(c api.Config) api.Config {
	c.Nets = roomy(c.Nets, api.Net{Subnets: []api.Subnet{{Base: 99 << 24, Bits: 8, Time: 1}}})
	for i, n := range c.Nets {
		n.Subnets = roomy(n.Subnets, api.Subnet{Base: 98 << 24, Bits: 8, Iface: 50, Time: 1})
		for j, s := range n.Subnets {
			n.Subnets[j].Pools = roomy(s.Pools, api.Range{First: s.Base + 1, Last: s.Base + 1})
			n.Subnets[j].Res = roomy(s.Res, api.Res{Key: "ispare", Addr: s.Base + 1})
		}
		c.Nets[i] = n
	}
	return c
}

// roomy answers a copy of a list with spare capacity that is filled.
func roomy[T any](l []T, spare T) []T {
	return append(slices.Clone(l), spare, spare, spare)[:len(l)]
}

// valids answers configurations that are valid.
func valids() []api.Config {
	all := []api.Config{plain(), wide(), full(), many(4, 4), many(1, 4), many(4, 1), {Server: 0, Probation: 1}, {Server: api.MaxAddr, Probation: api.MaxSpan, Nets: []api.Net{}}}
	for _, bits := range []int{8, 9, 16, 24, 29, 30} {
		all = append(all, bare(0, bits), bare(ten, bits), bare(1<<32-1<<(32-bits), bits))
	}
	return all
}

// A spoiler makes a configuration wrong, in the subnet with these indices if it is one's fault.
type spoiler struct {
	name  string
	spoil func(c *api.Config, net, sub int)
	want  api.Errno
}

// inSubnet answers a spoiler of a subnet.
func inSubnet(name string, want api.Errno, f func(s *api.Subnet)) spoiler {
	return spoiler{name, func(c *api.Config, net, sub int) { f(&c.Nets[net].Subnets[sub]) }, want}
}

// spoilers answers what makes full() wrong, wherever it happens. No two of them hinder each other in two networks.
func spoilers() []spoiler {
	all := slices.Concat(wrongArguments(), wrongPlaces(), wrongTwins())
	for k := range 4 {
		for _, s := range poolSpoilers(k) {
			all = append(all, s)
		}
	}
	for k := range 8 {
		for _, s := range resSpoilers(k) {
			all = append(all, s)
		}
	}
	return all
}

// wrongArguments answers spoilers that are ErrArg.
func wrongArguments() []spoiler {
	all := []spoiler{
		{"no subnet", func(c *api.Config, net, sub int) { c.Nets[net].Subnets = nil }, api.ErrArg},
		{"a subnet more", func(c *api.Config, net, sub int) {
			c.Nets[net].Subnets = append(c.Nets[net].Subnets, api.Subnet{Base: 77<<24 + net<<16, Bits: 16, Time: 1})
		}, api.ErrArg},
		inSubnet("a pool more", api.ErrArg, func(s *api.Subnet) { s.Pools = append(s.Pools, api.Range{First: s.Base + 2, Last: s.Base + 2}) }),
		inSubnet("a reservation more", api.ErrArg, func(s *api.Subnet) { s.Res = append(s.Res, api.Res{Key: "imore", Addr: s.Base + 2}) }),
	}
	for _, n := range []int{math.MinInt, -1, 100, math.MaxInt} {
		all = append(all, inSubnet("an interface", api.ErrArg, func(s *api.Subnet) { s.Iface = n }))
	}
	for _, n := range []int{math.MinInt, -1, 0, api.MaxSpan + 1, math.MaxInt} {
		all = append(all, inSubnet("a time", api.ErrArg, func(s *api.Subnet) { s.Time = n }))
	}
	for _, n := range []int{math.MinInt, -1, 0, 7, 31, 32, 33, math.MaxInt} {
		all = append(all, inSubnet("bits", api.ErrArg, func(s *api.Subnet) { s.Bits = n }))
	}
	for _, n := range []int{math.MinInt, -256, -1, ten + 1, ten + 128, 1 << 32, 1<<32 + ten, math.MaxInt} {
		all = append(all, inSubnet("a base", api.ErrArg, func(s *api.Subnet) { s.Base = n }))
	}
	return all
}

// wrongPlaces answers spoilers that are ErrOut.
func wrongPlaces() []spoiler {
	var all []spoiler
	for _, n := range []int{-1 << 32, -256, -1, 256, 1 << 16, 1 << 32} {
		all = append(all, inSubnet("a router", api.ErrOut, func(s *api.Subnet) { s.Router = s.Base + n }))
	}
	for _, n := range []int{math.MinInt, -1, 1, api.MaxAddr, api.MaxAddr + 1, math.MaxInt} {
		all = append(all, inSubnet("another router", api.ErrOut, func(s *api.Subnet) { s.Router = n }))
	}
	return all
}

// wrongTwins answers spoilers that are ErrTwice.
func wrongTwins() []spoiler {
	return []spoiler{
		{"a subnet twice", func(c *api.Config, net, sub int) {
			c.Nets[net].Subnets[sub] = c.Nets[net].Subnets[(sub+1)%4]
		}, api.ErrTwice},
		{"a subnet of another network", func(c *api.Config, net, sub int) {
			s := c.Nets[(net+1)%4].Subnets[sub]
			c.Nets[net].Subnets[sub] = api.Subnet{Base: s.Base, Bits: s.Bits, Time: 1}
		}, api.ErrTwice},
		{"a part of another network", func(c *api.Config, net, sub int) {
			s := c.Nets[(net+1)%4].Subnets[sub]
			c.Nets[net].Subnets[sub] = api.Subnet{Base: s.Base + 128, Bits: 30, Time: 1}
		}, api.ErrTwice},
		{"all networks", func(c *api.Config, net, sub int) {
			c.Nets[net].Subnets[sub] = api.Subnet{Base: ten, Bits: 8, Time: 1}
		}, api.ErrTwice},
		{"an interface of another network", func(c *api.Config, net, sub int) {
			c.Nets[net].Subnets[sub].Iface = c.Nets[(net+1)%4].Subnets[sub].Iface
		}, api.ErrTwice},
		{"a key of another subnet", func(c *api.Config, net, sub int) {
			c.Nets[net].Subnets[sub].Res[3].Key = c.Nets[net].Subnets[(sub+1)%4].Res[6].Key
		}, api.ErrTwice},
	}
}

// poolSpoilers answers what makes a subnet of full() wrong in the pool k.
func poolSpoilers(k int) []spoiler {
	name := fmt.Sprintf("the pool %d", k)
	set := func(want api.Errno, r func(api.Subnet) api.Range) spoiler {
		return inSubnet(name, want, func(s *api.Subnet) { s.Pools[k] = r(*s) })
	}
	return []spoiler{
		set(api.ErrArg, func(s api.Subnet) api.Range { return api.Range{First: s.Base + 3, Last: s.Base + 2} }),
		set(api.ErrArg, func(s api.Subnet) api.Range { return api.Range{First: math.MaxInt, Last: math.MinInt} }),
		set(api.ErrOut, func(s api.Subnet) api.Range { return api.Range{First: s.Base, Last: s.Base + 1} }),
		set(api.ErrOut, func(s api.Subnet) api.Range { return api.Range{First: s.Base + 254, Last: s.Base + 255} }),
		set(api.ErrOut, func(s api.Subnet) api.Range { return api.Range{First: s.Base + 257, Last: s.Base + 300} }),
		set(api.ErrOut, func(s api.Subnet) api.Range { return api.Range{First: s.Base - 9, Last: s.Base - 3} }),
		set(api.ErrOut, func(s api.Subnet) api.Range { return api.Range{First: math.MinInt, Last: math.MaxInt} }),
		set(api.ErrOut, func(s api.Subnet) api.Range { return api.Range{} }),
		set(api.ErrTwice, func(s api.Subnet) api.Range {
			p := s.Pools[(k+1)%4]
			return api.Range{First: p.First, Last: p.First}
		}),
		set(api.ErrTwice, func(s api.Subnet) api.Range {
			p := s.Pools[(k+3)%4]
			return api.Range{First: p.Last, Last: p.Last}
		}),
		set(api.ErrTwice, func(s api.Subnet) api.Range { return api.Range{First: s.Base + 1, Last: s.Base + 254} }),
		{"the server in " + name, func(c *api.Config, net, sub int) { c.Server = c.Nets[net].Subnets[sub].Pools[k].First }, api.ErrOut},
		{"the server at the end of " + name, func(c *api.Config, net, sub int) { c.Server = c.Nets[net].Subnets[sub].Pools[k].Last }, api.ErrOut},
	}
}

// resSpoilers answers what makes a subnet of full() wrong in the reservation k.
func resSpoilers(k int) []spoiler {
	name := fmt.Sprintf("the reservation %d", k)
	set := func(want api.Errno, f func(s *api.Subnet, r *api.Res)) spoiler {
		return inSubnet(name, want, func(s *api.Subnet) { f(s, &s.Res[k]) })
	}
	all := []spoiler{
		set(api.ErrOut, func(s *api.Subnet, r *api.Res) { r.Addr = s.Base }),
		set(api.ErrOut, func(s *api.Subnet, r *api.Res) { r.Addr = s.Base + 255 }),
		set(api.ErrOut, func(s *api.Subnet, r *api.Res) { r.Addr = s.Base + 256 }),
		set(api.ErrOut, func(s *api.Subnet, r *api.Res) { r.Addr = s.Base - 1 }),
		set(api.ErrOut, func(s *api.Subnet, r *api.Res) { r.Addr = 0 }),
		set(api.ErrOut, func(s *api.Subnet, r *api.Res) { r.Addr = math.MinInt }),
		set(api.ErrOut, func(s *api.Subnet, r *api.Res) { r.Addr = math.MaxInt }),
		set(api.ErrTwice, func(s *api.Subnet, r *api.Res) { r.Addr = s.Res[(k+1)%8].Addr }),
		set(api.ErrTwice, func(s *api.Subnet, r *api.Res) { r.Key = s.Res[(k+5)%8].Key }),
		{"the server in " + name, func(c *api.Config, net, sub int) { c.Server = c.Nets[net].Subnets[sub].Res[k].Addr }, api.ErrOut},
	}
	for _, s := range wrongKeys() {
		all = append(all, set(api.ErrArg, func(_ *api.Subnet, r *api.Res) { r.Key = s }))
	}
	return all
}

// wrongKeys answers texts that are no keys.
func wrongKeys() []string {
	return []string{"", "i", "h", "i0", "h0", "x01", "01", "I01", "h" + strings.Repeat("x", 18), "i" + strings.Repeat("x", 256), "i" + strings.Repeat("x", 100000)}
}

// invalids answers configurations that are not valid, each with something to find if it were.
func invalids() []api.Config {
	var all []api.Config
	for i, s := range spoilers() {
		c := full()
		s.spoil(&c, i%4, i/4%4)
		all = append(all, c)
	}
	for _, f := range []func(c *api.Config){
		func(c *api.Config) { c.Server = -1 },
		func(c *api.Config) { c.Server = api.MaxAddr + 1 },
		func(c *api.Config) { c.Server = ten + 15 },
		func(c *api.Config) { c.Probation = 0 },
		func(c *api.Config) { c.Probation = api.MaxSpan + 1 },
		func(c *api.Config) { c.Nets = append(c.Nets, api.Net{}) },
		func(c *api.Config) { c.Nets = append([]api.Net{{}}, c.Nets...) },
		func(c *api.Config) { c.Nets = append(c.Nets, c.Nets[0]) },
		func(c *api.Config) { c.Nets = slices.Concat(many(4, 1).Nets, c.Nets) },
	} {
		c, d := plain(), wide()
		f(&c)
		f(&d)
		all = append(all, c, d)
	}
	return append(all, api.Config{}, many(5, 1), many(4, 5), many(4, 0), many(1000, 4))
}

// handSize answers how many addresses a prefix has: 0 if there is none of these bits.
func handSize(bits int) int {
	if bits < 8 || bits > 30 {
		return 0
	}
	size := 4
	for ; bits < 30; bits++ {
		size *= 2
	}
	return size
}

// handKey: is it a key, by the words of chapter 7?
func handKey(k string) bool {
	return strings.HasPrefix(k, "i") && len(k) >= 3 && len(k) <= 256 || strings.HasPrefix(k, "h") && len(k) >= 3 && len(k) <= 18
}

// handArg: has a subnet a fault that is ErrArg, by the chapter's words?
func handArg(s api.Subnet) bool {
	size := handSize(s.Bits)
	bad := size == 0 || s.Base < 0 || s.Base > api.MaxAddr || s.Base%size != 0 || len(s.Pools) > 4 || len(s.Res) > 8
	bad = bad || s.Iface < 0 || s.Iface > 99 || s.Time < 1 || s.Time > 1<<31
	for _, r := range s.Pools {
		bad = bad || r.First > r.Last
	}
	for _, r := range s.Res {
		bad = bad || !handKey(r.Key)
	}
	return bad
}

// handOut: has a subnet a fault that is ErrOut, by the chapter's words?
func handOut(s api.Subnet, server int) bool {
	end := s.Base + handSize(s.Bits) - 1
	bad := s.Router != 0 && (s.Router < s.Base || s.Router > end)
	for _, r := range s.Pools {
		bad = bad || r.First <= s.Base || r.First >= end || r.Last <= s.Base || r.Last >= end || server >= r.First && server <= r.Last
	}
	for _, r := range s.Res {
		bad = bad || r.Addr <= s.Base || r.Addr >= end || r.Addr == server
	}
	return bad
}

// handTwice: has a configuration, without other faults, one that is ErrTwice, by the chapter's words?
func handTwice(c api.Config) bool {
	type netKey struct {
		net int
		key string
	}
	var spans []api.Range
	wires, addrs, keys := map[int]int{}, map[int]int{}, map[netKey]int{}
	bad := false
	for i, n := range c.Nets {
		for _, s := range n.Subnets {
			spans = append(spans, api.Range{First: s.Base, Last: s.Base + handSize(s.Bits) - 1})
			if s.Iface > 0 {
				net, there := wires[s.Iface]
				bad = bad || there && net != i
				wires[s.Iface] = i
			}
			for _, r := range s.Res {
				addrs[r.Addr]++
				keys[netKey{i, r.Key}]++
				bad = bad || addrs[r.Addr] > 1 || keys[netKey{i, r.Key}] > 1
			}
			bad = bad || handMeet(s.Pools)
		}
	}
	return bad || handMeet(spans)
}

// handMeet: have two of these ranges an address in common?
func handMeet(l []api.Range) bool {
	l = slices.SortedFunc(slices.Values(l), func(r, s api.Range) int { return r.First - s.First })
	for i := range l {
		if i > 0 && l[i].First <= l[i-1].Last {
			return true
		}
	}
	return false
}

// handCheck answers what P13.1 says.
func handCheck(c api.Config) api.Errno {
	bad := c.Server < 0 || c.Server >= 1<<32 || c.Probation < 1 || c.Probation > 1<<31 || len(c.Nets) > 4
	out := false
	for _, n := range c.Nets {
		bad = bad || len(n.Subnets) < 1 || len(n.Subnets) > 4
		for _, s := range n.Subnets {
			bad, out = bad || handArg(s), out || handOut(s, c.Server)
		}
	}
	switch {
	case bad:
		return api.ErrArg
	case out:
		return api.ErrOut
	case handTwice(c):
		return api.ErrTwice
	}
	return api.OK
}

// edges answers numbers that are no addresses, and the edges of those that are.
func edges() []int {
	return []int{math.MinInt, math.MinInt + 1, -1 << 32, -1, 0, 1, 1 << 31, api.MaxAddr - 1, api.MaxAddr, api.MaxAddr + 1, 1<<32 + ten + 15, math.MaxInt - 1, math.MaxInt}
}

// addrsAround answers the addresses that a configuration names, the last ones of its subnets, those beside them, and numbers that are no addresses.
func addrsAround(c api.Config) []int {
	all := []int{c.Server}
	for _, n := range c.Nets {
		for _, s := range n.Subnets {
			all = append(all, s.Base, s.Base+handSize(s.Bits)/2, s.Base+handSize(s.Bits), s.Router)
			for _, r := range s.Pools {
				all = append(all, r.First, r.Last, r.First+(r.Last-r.First)/2)
			}
			for _, r := range s.Res {
				all = append(all, r.Addr)
			}
		}
	}
	for _, a := range slices.Clone(all) {
		all = append(all, a-2, a-1, a+1, a+1<<32, a-1<<32)
	}
	all = append(all, edges()...)
	slices.Sort(all)
	return slices.Compact(all)
}

// keysAround answers the keys of a configuration, texts that are like them, and texts that are none.
func keysAround(c api.Config) []string {
	all := append(wrongKeys(), "i01", "i02", "h01", "hab", "iab", "i\x00\x00", "i01\x00", "ispare")
	for _, n := range c.Nets {
		for _, s := range n.Subnets {
			for _, r := range s.Res {
				all = append(all, r.Key, r.Key+"x")
			}
		}
	}
	slices.Sort(all)
	return slices.Compact(all)
}

// netsAround answers the indices of a configuration's networks, and numbers that are none.
func netsAround(c api.Config) []int {
	all := []int{math.MinInt, math.MinInt + 1, -1 << 32, -2, -1}
	for i := range len(c.Nets) + 2 {
		all = append(all, i)
	}
	return append(all, 256, 1<<32, 1<<32+1, math.MaxInt)
}

// randomConfig answers a configuration of small subnets among few addresses, so that it is often valid, and often nearly so.
func randomConfig(r *rand.Rand) api.Config {
	c := api.Config{Server: ten + r.Intn(512), Probation: 1 + r.Intn(9)}
	for i := range 1 + r.Intn(3) {
		var n api.Net
		for range 1 + r.Intn(2) {
			n.Subnets = append(n.Subnets, randomSubnet(r, i))
		}
		c.Nets = append(c.Nets, n)
	}
	return c
}

// randomSubnet answers a small subnet, whose interface is that of another network now and then.
func randomSubnet(r *rand.Rand, net int) api.Subnet {
	bits := 28 + r.Intn(3)
	size := handSize(bits)
	s := api.Subnet{Base: ten + r.Intn(512)/size*size, Bits: bits, Iface: net*3 + r.Intn(4), Time: 1 + r.Intn(9)}
	if r.Intn(2) == 0 {
		s.Router = s.Base + r.Intn(size)
	}
	first := 1
	for range r.Intn(3) {
		first = min(first+r.Intn(5), size-2)
		last := min(first+r.Intn(4), size-2)
		s.Pools = append(s.Pools, api.Range{First: s.Base + first, Last: s.Base + last})
		first = last + r.Intn(6)/5 + r.Intn(2)
	}
	for range r.Intn(3) {
		k := oneOf(r, []string{"i01", "i02", "hab", "iab", "h01", "i03", "i04", "i05"})
		s.Res = append(s.Res, api.Res{Key: k, Addr: s.Base + 1 + r.Intn(size-2)})
	}
	return s
}

// spoilAny changes one number or key of a configuration to any other one, edges above all.
func spoilAny(r *rand.Rand, c *api.Config) {
	all := []*int{&c.Server, &c.Probation}
	var keys []*string
	for i := range c.Nets {
		for j := range c.Nets[i].Subnets {
			s := &c.Nets[i].Subnets[j]
			all = append(all, &s.Base, &s.Bits, &s.Iface, &s.Router, &s.Time)
			for k := range s.Pools {
				all = append(all, &s.Pools[k].First, &s.Pools[k].Last)
			}
			for k := range s.Res {
				all, keys = append(all, &s.Res[k].Addr), append(keys, &s.Res[k].Key)
			}
		}
	}
	if len(keys) > 0 && r.Intn(5) == 0 {
		*oneOf(r, keys) = oneOf(r, append(wrongKeys(), "i01", "hab"))
		return
	}
	p := oneOf(r, all)
	*p = oneOf(r, append(edges(), *p-1, *p+1, *p-1, *p+1, 7, 8, 30, 31, 99, 100, api.MaxSpan, api.MaxSpan+1, int(r.Uint64())))
}

// oneOf answers any element of a list.
func oneOf[T any](r *rand.Rand, l []T) T {
	return l[r.Intn(len(l))]
}

// tell answers a configuration in a few words.
func tell(c api.Config) string {
	return fmt.Sprintf("%.600s", fmt.Sprintf("%+v", c))
}

func TestFixtures(t *testing.T) { // what the other tests lean on
	for i, c := range valids() {
		if e := handCheck(c); e != api.OK {
			t.Errorf("configuration %d is not valid: %d: %s", i, e, tell(c))
		}
	}
	for i, c := range invalids() {
		if handCheck(c) == api.OK {
			t.Errorf("configuration %d is valid: %s", i, tell(c))
		}
	}
}
