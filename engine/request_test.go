package engine

import (
	"math"
	"testing"

	"boarder/api"
	"boarder/msg"
)

// The three classes' outcomes are told by letters: g for a grant, n for a Nak, and - for nothing.
const classLetters = "gn-"

// outcomes holds what Handle does with the Requests of the three classes (Selecting, Reboot and Extend), all by way of a relay in the first subnet, against three letters.
func outcomes(t *testing.T, s scene, k string, a int, want string) {
	t.Helper()
	for i, m := range requests(k, a, ten+200) {
		switch want[i] {
		case 'g':
			net, sub := handWhere(s.c, a)
			grants(t, s, m, net, sub, a, k, handEnd(s.now, s.c.Nets[net].Subnets[sub].Time))
		case 'n':
			denies(t, s, m, 0, 0)
		case '-':
			ignores(t, s, m)
		default:
			t.Fatalf("no letter of %q", classLetters)
		}
	}
}

func TestRequestWithoutLease(t *testing.T) { // P19.1: no lease at all: a grant or a Nak for who selects, nothing for who has it already
	s := at(wide())
	for _, a := range []int{spot, ten + 12, second + 10, second + 11} { // of a pool
		outcomes(t, s, "i02", a, "g--")
		outcomes(t, s, "i01", a, "g--")
	}
	for _, x := range []struct {
		a int
		k string
	}{{ten + 5, "i01"}, {ten + 11, "i03"}, {second + 5, "i04"}} { // reserved for the client, and for another
		outcomes(t, s, x.k, x.a, "g--")
		outcomes(t, s, "i02", x.a, "n--")
	}
	for _, a := range []int{ten, own, ten + 9, ten + 13, ten + 99, ten + 255, second, second + 127, third, third + 7, third + 15} { // of neither
		outcomes(t, s, "i02", a, "n--")
	}
}

func TestRequestElsewhere(t *testing.T) { // P19.1, P19.5: an address in another network or in none gets a Nak, whatever its lease is
	for _, a := range []int{other, other + 10, other + 5, bare + 1, long + 1, greatest - 1, greatest, 1, nowhere, third + 16, second + 128, ten - 1, 98<<24 + 1} {
		outcomes(t, at(wide()), "i01", a, "nnn")
		for _, l := range []api.Lease{bound(a, "i01"), bound(a, "i02"), ended(a, "i01"), declined(a, "i01"), lease(a, 2, now, "i01")} {
			outcomes(t, at(wide(), l), "i01", a, "nnn")
		}
	}
	denies(t, at(wide()), selects("i02", 0), 0, 0)
	denies(t, at(wide()), reboots("i02", 0), 0, 0)
	// It is the message's network that counts, not the first one.
	s := scene{wide(), nil, 2, now}
	denies(t, s, selects("i02", spot), 1, 0)
	grants(t, s, selects("i02", other+10), 1, 0, other+10, "i02", now+1)
	grants(t, s, relayed(long+9, selects("i02", 1)), 3, 2, 1, "i02", now+3)
}

func TestRequestOfOwnLease(t *testing.T) { // P19.1: the client's own lease of the address, in each state, its Expiry gone by and not
	for _, x := range []struct {
		state, expiry int
		want          string
	}{
		{1, later, "ggg"}, {1, now + 1, "ggg"}, {1, now, "ggg"}, {1, 0, "ggg"}, {1, latest, "ggg"},
		{2, later, "ggg"}, {2, now + 1, "ggg"}, {2, now, "ggg"}, {2, 0, "ggg"}, {2, latest, "ggg"},
		{3, later, "nnn"}, {3, now + 1, "nnn"}, {3, now, "gnn"}, {3, 0, "gnn"}, {3, latest, "nnn"},
	} {
		outcomes(t, at(wide(), lease(ten+12, x.state, x.expiry, "i02")), "i02", ten+12, x.want)
		outcomes(t, at(wide(), lease(second+5, x.state, x.expiry, "i04")), "i04", second+5, x.want)
		// Where the client may not get the address any more, it is denied in any case.
		outcomes(t, at(wide(), lease(ten+11, x.state, x.expiry, "i02")), "i02", ten+11, "nnn")
		outcomes(t, at(wide(), lease(ten+99, x.state, x.expiry, "i02")), "i02", ten+99, "nnn")
		outcomes(t, at(wide(), lease(third+1, x.state, x.expiry, "i02")), "i02", third+1, "nnn")
	}
}

func TestRequestOfOthersLease(t *testing.T) { // P19.1: another client's lease, in each state, its Expiry gone by and not
	for _, x := range []struct {
		state, expiry int
		want          string
	}{
		{1, later, "nnn"}, {1, now + 1, "nnn"}, {1, now, "gnn"}, {1, 0, "gnn"}, {1, latest, "nnn"},
		{2, later, "gnn"}, {2, now + 1, "gnn"}, {2, now, "gnn"}, {2, 0, "gnn"}, {2, latest, "gnn"},
		{3, later, "nnn"}, {3, now + 1, "nnn"}, {3, now, "gnn"}, {3, 0, "gnn"}, {3, latest, "nnn"},
	} {
		outcomes(t, at(wide(), lease(ten+12, x.state, x.expiry, "i07")), "i02", ten+12, x.want)
		outcomes(t, at(wide(), lease(second+5, x.state, x.expiry, "i07")), "i04", second+5, x.want)
		outcomes(t, at(wide(), lease(ten+12, x.state, x.expiry, "h02")), "i02", ten+12, x.want)
	}
}

func TestRequestBesideAnother(t *testing.T) { // P19.1: a client that has another address of the network may get no further one
	for _, b := range []int{spot, second + 10, third + 9, ten + 99} {
		outcomes(t, at(wide(), bound(b, "i02")), "i02", ten+12, "n--")
		outcomes(t, at(wide(), bound(b, "i02"), ended(ten+12, "i02")), "i02", ten+12, "nnn")
		outcomes(t, at(wide(), bound(b, "i02"), bound(ten+12, "i02")), "i02", ten+12, "nnn")
		outcomes(t, at(wide(), ended(b, "i02"), bound(ten+12, "i02")), "i02", ten+12, "ggg")
		outcomes(t, at(wide(), bound(b, "i07"), bound(ten+12, "i02")), "i02", ten+12, "ggg")
	}
	for _, b := range []int{other + 10, nowhere, long + 1} { // what it has in another network is no hindrance
		outcomes(t, at(wide(), bound(b, "i02"), bound(ten+12, "i02")), "i02", ten+12, "ggg")
		outcomes(t, at(wide(), bound(b, "i02")), "i02", ten+12, "g--")
	}
}

func TestRequestWithoutRelay(t *testing.T) { // P19.1: each class on the interface, or by the client's own address
	s := at(wide(), bound(second+10, "i02"))
	grants(t, s, selects("i02", second+10), 0, 1, second+10, "i02", now+77)
	grants(t, s, reboots("i02", second+10), 0, 1, second+10, "i02", now+77)
	grants(t, s, extends("i02", second+10), 0, 1, second+10, "i02", now+77)
	denies(t, s, selects("i07", second+10), 0, 0)
	denies(t, s, reboots("i07", second+10), 0, 0)
	denies(t, s, extends("i07", second+10), 0, 1)
	ignores(t, s, extends("i02", spot))
	ignores(t, s, extends("i02", nowhere)) // it belongs to no subnet
	ignores(t, s, reboots("i02", spot))
	denies(t, s, reboots("i02", nowhere), 0, 0)
	// On another interface the address that the client has says where it is.
	s.iface = 2
	grants(t, s, extends("i02", second+10), 0, 1, second+10, "i02", now+77)
	denies(t, s, reboots("i02", second+10), 1, 0)
}

func TestWrongClass(t *testing.T) { // P19.1: nothing for a Request of no class, even for an address of another network
	for _, s := range []scene{at(wide()), at(wide(), bound(spot, "i02")), at(wide(), bound(0, "i02"))} {
		for _, m := range []msg.Msg{
			says("i02", 3),
			says("i02", 3, names(own)),
			from(spot, says("i02", 3, names(own))),
			from(spot, says("i02", 3, wants(spot))),
			from(spot, says("i02", 3, names(own), wants(spot))),
			from(spot, says("i02", 3, wants(nowhere))),
			says("i02", 3, option(50, 10, 0, 0), names(own)),
			says("i02", 3, option(50, 10, 0, 0, 10, 0)),
			from(spot, says("i02", 3, wants(other+10), names(own))),
		} {
			ignores(t, s, m)
			ignores(t, s, relayed(ten+200, m))
		}
		// An option of another length counts as absent.
		for _, data := range [][]byte{{}, {10, 0, 0}, {10, 0, 0, 2, 9}} {
			agrees(t, s, says("i02", 3, option(54, data...), wants(spot)))
			agrees(t, s, with(extends("i02", spot), option(54, data...), option(50, data...)))
		}
	}
	s := at(wide(), bound(spot, "i02"))
	grants(t, s, says("i02", 3, option(54, 10, 0, 0), wants(spot)), 0, 0, spot, "i02", now+600)
	grants(t, s, with(extends("i02", spot), option(54, 10, 0, 0, 2, 0), option(50)), 0, 0, spot, "i02", now+600)
}

func TestRequestToOther(t *testing.T) { // P19.1: a Request that selects another server's offer, whatever it is about
	for _, a := range []int{spot, ten + 5, ten + 99, other + 10, nowhere, 0, greatest} {
		for _, server := range []int{0, own + 1, own - 1, greatest} {
			ignores(t, at(wide()), says("i02", 3, names(server), wants(a)))
			ignores(t, at(wide(), bound(a, "i02")), says("i02", 3, names(server), wants(a)))
		}
	}
}

func TestEnds(t *testing.T) { // P19.1: when a lease ends that is granted at the first and the last moments, with the shortest and the longest time
	for _, x := range []struct{ time, now, until int }{
		{1, 0, 1}, {1, 1, 2}, {1, latest - 2, latest - 1}, {1, latest - 1, latest}, {1, latest, latest},
		{2, latest - 2, latest}, {2, latest - 1, latest}, {2, latest, latest},
		{600, 0, 600}, {600, latest - 601, latest - 1}, {600, latest - 600, latest}, {600, latest - 599, latest},
		{1 << 31, 0, 1 << 31}, {1 << 31, 1, 1<<31 + 1}, {1 << 31, 1 << 31, 1 << 32}, {1 << 31, latest - 1<<31 - 1, latest - 1},
		{1 << 31, latest - 1<<31, latest}, {1 << 31, latest - 1<<31 + 1, latest}, {1 << 31, latest - 1, latest}, {1 << 31, latest, latest},
	} {
		s := scene{single(), nil, 1, x.now}
		s.c.Nets[0].Subnets[0].Time = x.time
		grants(t, s, selects("i02", spot), 0, 0, spot, "i02", x.until)
		s.t = []api.Lease{lease(spot, 2, 0, "i02")}
		for _, m := range requests("i02", spot, own) {
			grants(t, s, m, 0, 0, spot, "i02", x.until)
		}
		// The lease ends as if it began now, however long it was.
		s.t = []api.Lease{lease(spot, 1, latest, "i02")}
		grants(t, s, extends("i02", spot), 0, 0, spot, "i02", x.until)
	}
}

func TestFullTable(t *testing.T) { // P19.1: a grant needs room in the table, unless the address has a lease there
	for n, want := range map[int]string{62: "g", 63: "g", 64: "-"} {
		s := scene{wide(), crowd(n), 1, now}
		m := selects("i02", spot)
		if want == "g" {
			grants(t, s, m, 0, 0, spot, "i02", now+600)
		} else {
			ignores(t, s, m)
		}
		// A Nak and an Ack to an Inform need none.
		denies(t, s, selects("i02", nowhere), 0, 0)
		denies(t, s, selects("i02", ten+99), 0, 0)
		informs(t, s, from(spot, says("i02", 8)), 0, 0)
		ignores(t, s, reboots("i02", spot))
	}
	for _, l := range []api.Lease{bound(spot, "i02"), ended(spot, "i02"), lease(spot, 2, 0, "i02")} {
		outcomes(t, scene{wide(), crowd(63, l), 1, now}, "i02", spot, "ggg")
	}
	for _, l := range []api.Lease{ended(spot, "i07"), lease(spot, 2, later, "i07"), lease(spot, 3, now, "i07")} {
		outcomes(t, scene{wide(), crowd(63, l), 1, now}, "i02", spot, "gnn")
	}
	for _, l := range []api.Lease{bound(spot, "i07"), declined(spot, "i02")} {
		outcomes(t, scene{wide(), crowd(63, l), 1, now}, "i02", spot, "nnn")
	}
	// A lease of another address makes no room, though nobody has it any more.
	outcomes(t, scene{wide(), crowd(63, lease(ten+12, 2, 0, "i02")), 1, now}, "i02", spot, "---")
}

func TestRequestExtremes(t *testing.T) { // P0: the least and the greatest interfaces and moments
	for _, iface := range []int{math.MinInt, -1, 0, 1, 99, 100, math.MaxInt} {
		for _, moment := range []int{math.MinInt, -1, 0, latest - 1, latest, latest + 1, math.MaxInt} {
			for _, c := range []api.Config{wide(), single(), empty(), {}} {
				for _, l := range [][]api.Lease{nil, {bound(spot, "i02")}, crowd(64), crowd(65), wrongTables()[0]} {
					for _, w := range wishes() {
						agrees(t, scene{c, l, iface, moment}, w.m)
					}
					agrees(t, scene{c, l, iface, moment}, msg.Msg{})
				}
			}
		}
	}
}
