package conf

import (
	"slices"

	"boarder/addr"
	"boarder/api"
	"boarder/key"
)

const (
	minBits  = 8 // of a subnet's prefix
	maxBits  = 30
	maxIface = 99
)

// Check answers what is wrong with a configuration.
func Check(c api.Config) api.Errno {
	all := subnetsOf(c)
	switch {
	case wrong(c) || slices.ContainsFunc(all, placed.wrong):
		return api.ErrArg
	case slices.ContainsFunc(all, func(p placed) bool { return p.strays() || p.takes(c.Server) }):
		return api.ErrOut
	case clash(all):
		return api.ErrTwice
	}
	return api.OK
}

// wrong: is something wrong outside of the subnets?
func wrong(c api.Config) bool {
	return !addr.Right(c.Server) || !rightSpan(c.Probation) ||
		len(c.Nets) > api.MaxNets || slices.ContainsFunc(c.Nets, wrongSize)
}

// rightSpan: may an address be lent, or spared, for so long?
func rightSpan(span int) bool {
	return span >= 1 && span <= api.MaxSpan
}

// wrongSize: has a network too few subnets, or too many?
func wrongSize(n api.Net) bool {
	return len(n.Subnets) == 0 || len(n.Subnets) > api.MaxSubnets
}

// wrong: is something wrong with a subnet, whatever stands beside it?
func (p placed) wrong() bool {
	return !addr.Fair(p.Base, p.Bits) || p.Bits < minBits || p.Bits > maxBits ||
		len(p.Pools) > api.MaxPools || len(p.Res) > api.MaxRes ||
		p.Iface < 0 || p.Iface > maxIface || !rightSpan(p.Time) ||
		slices.ContainsFunc(p.Pools, func(r api.Range) bool { return r.First > r.Last }) ||
		slices.ContainsFunc(p.Res, func(r api.Res) bool { return !key.Right(r.Key) })
}

// strays: has a subnet, whose prefix is right, an address that may not be there?
func (p placed) strays() bool {
	return p.Router != 0 && !addr.Has(p.Base, p.Bits, p.Router) ||
		slices.ContainsFunc(p.Pools, func(r api.Range) bool { return !p.lends(r.First) || !p.lends(r.Last) }) ||
		slices.ContainsFunc(p.Res, func(r api.Res) bool { return !p.lends(r.Addr) })
}

// lends: may a subnet give a client an address?
func (p placed) lends(a int) bool {
	last, _ := addr.Last(p.Base, p.Bits)
	return a > p.Base && a < last
}

// takes: does a subnet have an address in a pool, or reserved?
func (p placed) takes(a int) bool {
	return p.pools(a) || slices.ContainsFunc(p.Res, func(r api.Res) bool { return r.Addr == a })
}

// clash: do subnets, or their pools or reservations, get in each other's way?
func clash(all []placed) bool {
	return anyTwo(all, subnetsClash) || anyTwo(reservationsOf(all), reservationsClash) ||
		slices.ContainsFunc(all, func(p placed) bool { return anyTwo(p.Pools, poolsClash) })
}

// subnetsClash: may two subnets not stand in one configuration?
func subnetsClash(p, q placed) bool {
	sameWire := p.net != q.net && p.Iface == q.Iface && p.Iface > 0
	return sameWire || addr.Meet(p.Base, p.Bits, q.Base, q.Bits)
}

// reservationsClash: may two reservations not stand in one configuration?
func reservationsClash(r, s kept) bool {
	return r.Addr == s.Addr || r.net == s.net && r.Key == s.Key
}

// poolsClash: do two pools have an address in common?
func poolsClash(r, s api.Range) bool {
	return r.First <= s.Last && s.First <= r.Last
}

// anyTwo: do two elements of a list clash, at whatever places?
func anyTwo[T any](list []T, clash func(T, T) bool) bool {
	for i, x := range list {
		for _, y := range list[:i] {
			if clash(x, y) {
				return true
			}
		}
	}
	return false
}
