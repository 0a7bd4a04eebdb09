package conf

import (
	"math"
	"math/rand"
	"strings"
	"testing"

	"boarder/api"
)

// checks: does Check answer just this?
func checks(t *testing.T, c api.Config, want api.Errno) {
	t.Helper()
	if e := Check(c); e != want {
		t.Errorf("Check of %s: %d, not %d", tell(c), e, want)
	}
}

// checksEach: does Check answer what stands beside each number, when a configuration has it?
func checksEach(t *testing.T, set func(v int) api.Config, want map[int]api.Errno) {
	t.Helper()
	for v, e := range want {
		if got := Check(set(v)); got != e {
			t.Errorf("with %d: %d, not %d", v, got, e)
		}
	}
}

// oneSubnet answers a setter of a bare subnet's number.
func oneSubnet(base, bits int, set func(s *api.Subnet, v int)) func(v int) api.Config {
	return func(v int) api.Config {
		c := bare(base, bits)
		set(&c.Nets[0].Subnets[0], v)
		return c
	}
}

func TestExample(t *testing.T) { // the chapter's example
	checks(t, plain(), api.OK)
	c := plain()
	c.Nets[0].Subnets[0].Pools[0].First = ten + 1
	checks(t, c, api.ErrOut)
	c = plain()
	c.Nets[0].Subnets = append(c.Nets[0].Subnets, api.Subnet{Base: ten + 128, Bits: 25, Time: 600})
	checks(t, c, api.ErrTwice)
}

func TestCheckValid(t *testing.T) { // P13.1
	for _, c := range valids() {
		checks(t, c, api.OK)
	}
}

func TestCheckNumbers(t *testing.T) { // P13.1: the edges of numbers
	spans := map[int]api.Errno{
		1: api.OK, 2: api.OK, api.MaxSpan - 1: api.OK, api.MaxSpan: api.OK,
		0: api.ErrArg, -1: api.ErrArg, api.MaxSpan + 1: api.ErrArg, 1<<32 + 1: api.ErrArg, math.MinInt: api.ErrArg, math.MaxInt: api.ErrArg,
	}
	checksEach(t, func(v int) api.Config { c := plain(); c.Probation = v; return c }, spans)
	checksEach(t, oneSubnet(ten, 24, func(s *api.Subnet, v int) { s.Time = v }), spans)
	checksEach(t, func(v int) api.Config { c := plain(); c.Server = v; return c }, map[int]api.Errno{
		0: api.OK, 1: api.OK, ten: api.OK, ten + 255: api.OK, api.MaxAddr - 1: api.OK, api.MaxAddr: api.OK,
		-1: api.ErrArg, api.MaxAddr + 1: api.ErrArg, 1<<32 + ten + 15: api.ErrArg, math.MinInt: api.ErrArg, math.MaxInt: api.ErrArg,
	})
	checksEach(t, oneSubnet(ten, 24, func(s *api.Subnet, v int) { s.Iface = v }), map[int]api.Errno{
		0: api.OK, 1: api.OK, 98: api.OK, 99: api.OK,
		-1: api.ErrArg, 100: api.ErrArg, 256: api.ErrArg, 1<<32 + 1: api.ErrArg, math.MinInt: api.ErrArg, math.MaxInt: api.ErrArg,
	})
}

func TestCheckPrefix(t *testing.T) { // P13.1: the edges of prefixes
	checksEach(t, oneSubnet(ten, 24, func(s *api.Subnet, v int) { s.Bits = v }), map[int]api.Errno{
		8: api.OK, 9: api.OK, 24: api.OK, 29: api.OK, 30: api.OK,
		7: api.ErrArg, 31: api.ErrArg, 32: api.ErrArg, 33: api.ErrArg, 0: api.ErrArg, -1: api.ErrArg, 1<<32 + 24: api.ErrArg, math.MinInt: api.ErrArg, math.MaxInt: api.ErrArg,
	})
	checksEach(t, oneSubnet(0, 24, func(s *api.Subnet, v int) { s.Bits = v }), map[int]api.Errno{
		8: api.OK, 30: api.OK, 7: api.ErrArg, 31: api.ErrArg, 0: api.ErrArg, 32: api.ErrArg, -1: api.ErrArg,
	})
	checksEach(t, oneSubnet(0, 8, func(s *api.Subnet, v int) { s.Base = v }), map[int]api.Errno{
		0: api.OK, 1 << 24: api.OK, 255 << 24: api.OK,
		1: api.ErrArg, 4: api.ErrArg, 1 << 23: api.ErrArg, 1<<24 - 1: api.ErrArg, -1 << 24: api.ErrArg, 1 << 32: api.ErrArg, math.MinInt: api.ErrArg, math.MaxInt: api.ErrArg,
	})
	checksEach(t, oneSubnet(0, 30, func(s *api.Subnet, v int) { s.Base = v }), map[int]api.Errno{
		0: api.OK, 4: api.OK, 8: api.OK, ten + 4: api.OK, api.MaxAddr - 3: api.OK,
		1: api.ErrArg, 2: api.ErrArg, 3: api.ErrArg, 5: api.ErrArg, ten + 2: api.ErrArg, -4: api.ErrArg, api.MaxAddr + 1: api.ErrArg, 1<<32 + 4: api.ErrArg, math.MinInt: api.ErrArg,
	})
}

func TestCheckRouter(t *testing.T) { // P13.1: the edges of a subnet for its router, its base and its last address among what is right
	setRouter := func(s *api.Subnet, v int) { s.Router = v }
	checksEach(t, oneSubnet(ten, 24, setRouter), map[int]api.Errno{
		0: api.OK, ten: api.OK, ten + 1: api.OK, ten + 254: api.OK, ten + 255: api.OK,
		ten - 1: api.ErrOut, ten + 256: api.ErrOut, 1: api.ErrOut, -1: api.ErrOut, api.MaxAddr: api.ErrOut, api.MaxAddr + 1: api.ErrOut, 1<<32 + ten: api.ErrOut, math.MinInt: api.ErrOut, math.MaxInt: api.ErrOut,
	})
	checksEach(t, oneSubnet(0, 8, setRouter), map[int]api.Errno{
		0: api.OK, 1: api.OK, 1<<24 - 1: api.OK, -1: api.ErrOut, 1 << 24: api.ErrOut, 1 << 32: api.ErrOut,
	})
	checksEach(t, oneSubnet(api.MaxAddr-3, 30, setRouter), map[int]api.Errno{
		0: api.OK, api.MaxAddr - 3: api.OK, api.MaxAddr: api.OK, api.MaxAddr - 4: api.ErrOut, api.MaxAddr + 1: api.ErrOut,
	})
}

func TestCheckCounts(t *testing.T) { // P13.1: as many of each as there may be, and one more
	for n := range 300 {
		want := api.OK
		if n > 4 {
			want = api.ErrArg
		}
		checks(t, many(n, 1), want)
		c := nets([]api.Subnet{{Base: ten, Bits: 8, Time: 1}})
		for i := range n {
			c.Nets[0].Subnets[0].Pools = append(c.Nets[0].Subnets[0].Pools, api.Range{First: ten + 1 + i, Last: ten + 1 + i})
		}
		checks(t, c, want)
		c = nets([]api.Subnet{{Base: ten, Bits: 8, Time: 1}})
		for i := range n {
			c.Nets[0].Subnets[0].Res = append(c.Nets[0].Subnets[0].Res, api.Res{Key: string([]byte{'i', byte(i), byte(i >> 8)}), Addr: ten + 1 + i})
		}
		if n <= 8 {
			want = api.OK
		}
		checks(t, c, want)
	}
	for n := range 4 {
		for s := range 300 {
			want := api.OK
			if n > 0 && (s == 0 || s > 4) {
				want = api.ErrArg
			}
			checks(t, many(n, s), want)
		}
	}
	for _, n := range []int{1 << 8, 1<<8 + 1, 1 << 16, 1<<16 + 1} {
		checks(t, many(n, 1), api.ErrArg)
		checks(t, many(1, n), api.ErrArg)
	}
}

func TestCheckNoSubnet(t *testing.T) { // P13.1: a network without subnets, ahead of, between and behind others
	for i := range 4 {
		c := many(4, 2)
		c.Nets[i].Subnets = nil
		checks(t, c, api.ErrArg)
		c.Nets[i].Subnets = []api.Subnet{}
		checks(t, c, api.ErrArg)
	}
	checks(t, nets(nil), api.ErrArg)
	checks(t, nets(), api.OK)
}

func TestCheckPool(t *testing.T) { // P13.1: the edges of a pool
	for _, p := range []struct{ base, bits, last int }{{ten, 24, ten + 255}, {0, 8, 1<<24 - 1}, {ten + 4, 30, ten + 7}, {api.MaxAddr - 3, 30, api.MaxAddr}, {255 << 24, 8, api.MaxAddr}} {
		pool := func(first, last int, want api.Errno) {
			t.Helper()
			c := bare(p.base, p.bits)
			c.Server = 127 << 24
			c.Nets[0].Subnets[0].Pools = []api.Range{{First: first, Last: last}}
			checks(t, c, want)
		}
		pool(p.base+1, p.base+1, api.OK)
		pool(p.last-1, p.last-1, api.OK)
		pool(p.base+1, p.last-1, api.OK)
		pool(p.base+2, p.base+1, api.ErrArg) // one greater
		pool(p.last, p.last-1, api.ErrArg)
		pool(p.base+1, p.base, api.ErrArg)
		pool(math.MaxInt, math.MinInt, api.ErrArg)
		pool(math.MinInt+1, math.MinInt, api.ErrArg)
		pool(p.base, p.base, api.ErrOut)
		pool(p.base, p.base+1, api.ErrOut)
		pool(p.base, p.last-1, api.ErrOut)
		pool(p.base-1, p.base-1, api.ErrOut)
		pool(p.base-1, p.base+1, api.ErrOut)
		pool(p.last, p.last, api.ErrOut)
		pool(p.last-1, p.last, api.ErrOut)
		pool(p.base+1, p.last, api.ErrOut)
		pool(p.last-1, p.last+1, api.ErrOut)
		pool(p.last+1, p.last+1, api.ErrOut)
		pool(p.base, p.last, api.ErrOut)
		pool(math.MinInt, p.base+1, api.ErrOut)
		pool(p.base+1, math.MaxInt, api.ErrOut)
		pool(math.MinInt, math.MaxInt, api.ErrOut)
		pool(p.base+1+1<<32, p.base+1+1<<32, api.ErrOut)
		pool(p.base+1-1<<32, p.base+1-1<<32, api.ErrOut)
	}
}

func TestCheckReservation(t *testing.T) { // P13.1: the edges of a reserved address
	setAddr := func(s *api.Subnet, v int) { s.Res = []api.Res{{Key: "i01", Addr: v}} }
	for _, p := range []struct{ base, bits, last int }{{ten, 24, ten + 255}, {ten, 8, ten + 1<<24 - 1}, {ten + 4, 30, ten + 7}, {api.MaxAddr - 3, 30, api.MaxAddr}, {255 << 24, 8, api.MaxAddr}} {
		checksEach(t, oneSubnet(p.base, p.bits, setAddr), map[int]api.Errno{
			p.base + 1: api.OK, p.last - 1: api.OK,
			p.base - 1: api.ErrOut, p.base: api.ErrOut, p.last: api.ErrOut, p.last + 1: api.ErrOut,
			p.base + 1 + 1<<32: api.ErrOut, p.base + 1 - 1<<32: api.ErrOut, -1: api.ErrOut, 0: api.ErrOut, math.MinInt: api.ErrOut, math.MaxInt: api.ErrOut,
		})
	}
	checksEach(t, oneSubnet(0, 8, setAddr), map[int]api.Errno{2: api.OK, 1<<24 - 2: api.OK, 0: api.ErrOut, 1: api.ErrOut /* the Server */, 1<<24 - 1: api.ErrOut})
}

func TestCheckKeys(t *testing.T) { // P13.1: the edges of a reservation's key
	for _, k := range []string{"i01", "h01", "i\x00\x00", "h\xff\xff", "h" + strings.Repeat("x", 17), "i" + strings.Repeat("x", 255)} {
		c := plain()
		c.Nets[0].Subnets[0].Res[0].Key = k
		checks(t, c, api.OK)
	}
	for _, k := range wrongKeys() {
		c := plain()
		c.Nets[0].Subnets[0].Res[0].Key = k
		checks(t, c, api.ErrArg)
	}
}

func TestCheckServer(t *testing.T) { // P13.1: the Server in a pool, at its edges and beside it, and reserved
	checksEach(t, func(v int) api.Config { c := plain(); c.Server = v; return c }, map[int]api.Errno{
		ten + 9: api.OK, ten + 10: api.ErrOut, ten + 11: api.ErrOut, ten + 15: api.ErrOut, ten + 19: api.ErrOut, ten + 20: api.ErrOut, ten + 21: api.OK,
		ten + 4: api.OK, ten + 5: api.ErrOut, ten + 6: api.OK,
	})
	checksEach(t, func(v int) api.Config { c := wide(); c.Server = v; return c }, map[int]api.Errno{
		ten + 5: api.ErrOut, ten + 9: api.OK, ten + 15: api.ErrOut /* in a pool and reserved */, ten + 21: api.ErrOut, ten + 22: api.OK, ten + 99: api.OK, ten + 100: api.ErrOut, ten + 126: api.ErrOut,
		ten + 127: api.OK, ten + 128: api.OK, ten + 129: api.ErrOut, ten + 200: api.ErrOut, ten + 201: api.OK, ten + 253: api.OK, ten + 254: api.ErrOut, ten + 255: api.OK,
		0: api.OK, 1: api.ErrOut, 77: api.ErrOut, 1<<24 - 2: api.ErrOut, 1<<24 - 1: api.OK, ten + 257: api.ErrOut, ten + 258: api.OK,
		api.MaxAddr - 3: api.OK, api.MaxAddr - 2: api.ErrOut, api.MaxAddr - 1: api.ErrOut, api.MaxAddr: api.OK, api.MaxAddr - 7: api.OK,
	})
}

// both checks two subnets in one network, and in two of them, in both orders.
func both(t *testing.T, s, u api.Subnet, one, two api.Errno) {
	t.Helper()
	checks(t, nets([]api.Subnet{s, u}), one)
	checks(t, nets([]api.Subnet{u, s}), one)
	checks(t, nets([]api.Subnet{s}, []api.Subnet{u}), two)
	checks(t, nets([]api.Subnet{u}, []api.Subnet{s}), two)
	far := func(n int) api.Subnet { return api.Subnet{Base: 200<<24 + 4*n, Bits: 30, Time: 1} }
	checks(t, nets([]api.Subnet{s, far(1), u, far(2)}), one)
	checks(t, nets([]api.Subnet{far(1), s, far(2)}, []api.Subnet{far(3)}, []api.Subnet{far(4), u}), two)
}

func TestCheckSubnets(t *testing.T) { // P13.1: two subnets that touch, that share addresses, and of which one has the other
	subnet := func(base, bits int) api.Subnet { return api.Subnet{Base: base, Bits: bits, Time: 1} }
	for _, x := range []struct {
		base, bits, base2, bits2 int
		want                     api.Errno
	}{
		{ten, 24, ten + 256, 24, api.OK},
		{ten, 25, ten + 128, 25, api.OK},
		{ten, 30, ten + 4, 30, api.OK},
		{0, 8, 1 << 24, 30, api.OK},
		{254 << 24, 8, 255 << 24, 8, api.OK},
		{api.MaxAddr - 3, 30, 0, 8, api.OK},
		{ten, 24, ten, 24, api.ErrTwice},
		{ten, 30, ten, 30, api.ErrTwice},
		{ten, 24, ten, 30, api.ErrTwice},
		{ten, 24, ten + 252, 30, api.ErrTwice},
		{ten, 24, ten + 128, 25, api.ErrTwice},
		{ten, 8, ten + 1<<23, 30, api.ErrTwice},
		{255 << 24, 8, api.MaxAddr - 3, 30, api.ErrTwice},
		{0, 8, 0, 9, api.ErrTwice},
	} {
		both(t, subnet(x.base, x.bits), subnet(x.base2, x.bits2), x.want, x.want)
	}
}

func TestCheckIfaces(t *testing.T) { // P13.1: one interface of two subnets
	subnet := func(base, iface int) api.Subnet {
		return api.Subnet{Base: base, Bits: 24, Iface: iface, Time: 1}
	}
	for _, iface := range []int{1, 2, 50, 99} {
		both(t, subnet(ten, iface), subnet(ten+256, iface), api.OK, api.ErrTwice)
		both(t, subnet(ten, iface), subnet(ten+256, iface-1), api.OK, api.OK)
		both(t, subnet(ten, iface), subnet(ten+256, 0), api.OK, api.OK)
	}
	both(t, subnet(ten, 0), subnet(ten+256, 0), api.OK, api.OK)
}

func TestCheckPools(t *testing.T) { // P13.1: two pools that touch, and that share addresses
	for _, x := range []struct {
		r, s api.Range
		want api.Errno
	}{
		{api.Range{First: 10, Last: 20}, api.Range{First: 21, Last: 30}, api.OK},
		{api.Range{First: 10, Last: 10}, api.Range{First: 11, Last: 11}, api.OK},
		{api.Range{First: 10, Last: 20}, api.Range{First: 30, Last: 40}, api.OK},
		{api.Range{First: 1, Last: 127}, api.Range{First: 128, Last: 254}, api.OK},
		{api.Range{First: 10, Last: 20}, api.Range{First: 20, Last: 30}, api.ErrTwice},
		{api.Range{First: 10, Last: 20}, api.Range{First: 15, Last: 30}, api.ErrTwice},
		{api.Range{First: 10, Last: 20}, api.Range{First: 10, Last: 20}, api.ErrTwice},
		{api.Range{First: 10, Last: 20}, api.Range{First: 12, Last: 17}, api.ErrTwice},
		{api.Range{First: 10, Last: 20}, api.Range{First: 10, Last: 10}, api.ErrTwice},
		{api.Range{First: 10, Last: 20}, api.Range{First: 20, Last: 20}, api.ErrTwice},
		{api.Range{First: 10, Last: 20}, api.Range{First: 15, Last: 15}, api.ErrTwice},
		{api.Range{First: 10, Last: 10}, api.Range{First: 10, Last: 10}, api.ErrTwice},
		{api.Range{First: 1, Last: 254}, api.Range{First: 254, Last: 254}, api.ErrTwice},
	} {
		at := func(r api.Range) api.Range { return api.Range{First: ten + r.First, Last: ten + r.Last} }
		far := []api.Range{{First: ten + 1000, Last: ten + 1001}, {First: ten + 900, Last: ten + 900}}
		for _, l := range [][]api.Range{{at(x.r), at(x.s)}, {at(x.s), at(x.r)}, {at(x.r), far[0], far[1], at(x.s)}, {far[0], at(x.s), at(x.r), far[1]}, {far[1], far[0], at(x.s), at(x.r)}} {
			c := bare(ten, 16)
			c.Nets[0].Subnets[0].Pools = l
			checks(t, c, x.want)
		}
	}
}

func TestCheckSameAddress(t *testing.T) { // P13.1: an address that is reserved twice, in whatever order, for one client or two
	for _, k := range []string{"i01", "i02"} {
		for _, l := range [][]api.Res{
			{{Key: "i01", Addr: ten + 5}, {Key: k, Addr: ten + 5}},
			{{Key: "i01", Addr: ten + 5}, {Key: "i03", Addr: ten + 6}, {Key: k, Addr: ten + 5}},
			{{Key: "i03", Addr: ten + 6}, {Key: k, Addr: ten + 5}, {Key: "i04", Addr: ten + 7}, {Key: "i01", Addr: ten + 5}},
		} {
			c := bare(ten, 24)
			c.Nets[0].Subnets[0].Res = l
			checks(t, c, api.ErrTwice)
			l[0].Addr = ten + 8
			if k != "i01" {
				l[1].Addr = ten + 9
				checks(t, c, api.OK)
			}
		}
	}
}

func TestCheckSameKey(t *testing.T) { // P13.1: a key that has two reservations: in a subnet, in a network, and in two networks
	with := func(base int, keys ...string) api.Subnet {
		s := api.Subnet{Base: base, Bits: 24, Time: 1}
		for i, k := range keys {
			s.Res = append(s.Res, api.Res{Key: k, Addr: base + 5 + i})
		}
		return s
	}
	checks(t, nets([]api.Subnet{with(ten, "i01", "i02", "h01")}), api.OK)
	checks(t, nets([]api.Subnet{with(ten, "i01", "i01")}), api.ErrTwice)
	checks(t, nets([]api.Subnet{with(ten, "i01", "i02", "i01")}), api.ErrTwice)
	checks(t, nets([]api.Subnet{with(ten, "i03"), with(ten+256, "i01", "i02", "i02")}), api.ErrTwice)
	both(t, with(ten, "i01"), with(ten+256, "i01"), api.ErrTwice, api.OK)
	both(t, with(ten, "i01", "i02"), with(ten+256, "i03", "i02"), api.ErrTwice, api.OK)
	both(t, with(ten, "i01", "i02"), with(ten+256, "i03", "i04"), api.OK, api.OK)
	both(t, with(ten, "i01"), with(ten+256, "h01", "i01\x00"), api.OK, api.OK)
	checks(t, nets([]api.Subnet{with(ten, "i01")}, []api.Subnet{with(ten+256, "i01"), with(ten+512, "i02")}, []api.Subnet{with(ten+768, "i01")}), api.OK)
	checks(t, nets([]api.Subnet{with(ten, "i01")}, []api.Subnet{with(ten+256, "i01"), with(ten+512, "i01")}), api.ErrTwice)
	c := bare(ten, 24) // a client's reservation may be in a pool
	c.Nets[0].Subnets[0].Res, c.Nets[0].Subnets[0].Pools = []api.Res{{Key: "i01", Addr: ten + 5}}, []api.Range{{First: ten + 5, Last: ten + 5}}
	checks(t, c, api.OK)
}

func TestCheckEverywhere(t *testing.T) { // P13.1: each fault in each subnet of each network
	for _, s := range spoilers() {
		for i := range 4 {
			for j := range 4 {
				c := full()
				s.spoil(&c, i, j)
				if e := Check(c); e != s.want {
					t.Errorf("%s in the subnet %d of the network %d: %d, not %d", s.name, j, i, e, s.want)
				}
			}
		}
	}
}

// places: how early a promise names an error.
var places = map[api.Errno]int{api.ErrArg: 1, api.ErrOut: 2, api.ErrTwice: 3}

func TestCheckTwoFaults(t *testing.T) { // P13.1, R2: of two faults the one that is named first, wherever they are
	all := spoilers()
	for i, s := range all {
		for j, u := range all {
			want := s.want
			if places[u.want] < places[want] {
				want = u.want
			}
			for _, at := range [][4]int{{0, 1, 2, 3}, {2, 3, 0, 1}} {
				c := full()
				s.spoil(&c, at[0], at[1])
				u.spoil(&c, at[2], at[3])
				if e := Check(c); e != want {
					t.Fatalf("%s (%d) in the network %d, %s (%d) in %d: %d, not %d", s.name, i, at[0], u.name, j, at[2], e, want)
				}
			}
		}
	}
}

func TestCheckServerAndOthers(t *testing.T) { // P13.1, R2: a wrong Server or Probation comes first, whatever else is wrong
	for _, s := range spoilers() {
		for _, f := range []func(c *api.Config){
			func(c *api.Config) { c.Server = -1 },
			func(c *api.Config) { c.Server = api.MaxAddr + 1 },
			func(c *api.Config) { c.Probation = 0 },
			func(c *api.Config) { c.Probation = api.MaxSpan + 1 },
			func(c *api.Config) { c.Nets = append(c.Nets, many(1, 1).Nets...) },
			func(c *api.Config) { c.Nets = append(c.Nets, api.Net{}) },
		} {
			c := full()
			s.spoil(&c, 1, 2)
			f(&c)
			checks(t, c, api.ErrArg)
		}
	}
}

func TestCheckAny(t *testing.T) { // P13.1, P0: any configurations, against the chapter's words read once more
	r := rand.New(rand.NewSource(131))
	seen := map[api.Errno]int{}
	for range 60000 {
		c := randomConfig(r)
		for range r.Intn(3) * r.Intn(2) {
			spoilAny(r, &c)
		}
		want := handCheck(c)
		seen[want]++
		checks(t, c, want)
	}
	for _, e := range []api.Errno{api.OK, api.ErrArg, api.ErrOut, api.ErrTwice} {
		if seen[e] < 3000 {
			t.Errorf("too few with the error %d: %v", e, seen)
		}
	}
}
