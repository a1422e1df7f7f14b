package relay

import (
	"math/rand"
	"slices"
	"testing"

	"kissgate/api"
	"kissgate/fdb"
	"kissgate/frame"
)

// The model tells of each port by itself whether a frame leaves it, and how: by sums and bits of its own, and by the places that a table shows.

func network(p Port, f api.Frame) int {
	switch {
	case f.Tagged && 0 < f.Vid && f.Vid < 4095:
		return f.Vid
	case f.Tagged && f.Vid != 0:
		return 0
	case 0 < p.Pvid && p.Pvid < 4095:
		return p.Pvid
	}
	return 0
}

// ofMany and isKept answer whether an address is that of many, or one to which nothing is handed on.
func ofMany(a int) bool { return 0 <= a && a < 1<<48 && a/(1<<40)%2 == 1 }

func isKept(a int) bool {
	low := a - 0x0180c2000000
	return 0 <= low && low < 16 || low == 32 || low == 33
}

func learnsBy(p Port, f api.Frame) bool {
	return (p.State == 1 || p.State == 2) && !ofMany(f.Src) && network(p, f) != 0 && !isKept(f.Dst)
}

// leavesBy answers as what a frame leaves a port, and whether it leaves it.
func leavesBy(ports []Port, in, out int, f api.Frame, places []fdb.Place) (api.Frame, bool) {
	_, e := frame.Bytes(f)
	vid := network(ports[in], f)
	if e != api.OK || isKept(f.Dst) || vid == 0 || in == out || ports[in].State != 2 || ports[out].State != 2 || !slices.Contains(ports[out].Members, vid) {
		return api.Frame{}, false
	}
	for _, p := range places {
		if p.Vid == vid && p.Mac == f.Dst && p.Port != out {
			return api.Frame{}, false
		}
	}
	if ports[out].Strip && ports[out].Pvid == vid {
		return api.Frame{Dst: f.Dst, Src: f.Src, Type: f.Type, Data: f.Data}, true
	}
	return api.Frame{Dst: f.Dst, Src: f.Src, Tagged: true, Vid: vid, Prio: f.Prio, Type: f.Type, Data: f.Data}, true
}

// drawVid draws a network, mostly one of a few; now and then a number that is none.
func drawVid(d *rand.Rand) int {
	if d.Intn(12) == 0 {
		return noVids[d.Intn(len(noVids))]
	}
	return []int{1, 2, 3, 4094}[d.Intn(4)]
}

func drawPort(d *rand.Rand) Port {
	p := Port{State: api.Forwarding, Pvid: drawVid(d), Strip: d.Intn(2) == 0}
	if d.Intn(3) == 0 {
		p.State = []int{-1, 0, 1, 1, 3}[d.Intn(5)]
	}
	for range d.Intn(6) {
		p.Members = append(p.Members, drawVid(d))
	}
	return p
}

// drawMac draws an address, mostly one of a few; now and then one of many, one that is kept, or a number that is none.
func drawMac(d *rand.Rand, wild int) int {
	if d.Intn(wild) == 0 {
		list := slices.Concat(kept, many, []int{-1, 1 << 48})
		return list[d.Intn(len(list))]
	}
	return d.Intn(5)
}

func drawFrame(d *rand.Rand) api.Frame {
	f := api.Frame{Dst: drawMac(d, 3), Src: drawMac(d, 12), Type: 0x0800, Data: "x"}
	if d.Intn(3) > 0 {
		f.Tagged, f.Vid, f.Prio = true, drawVid(d), d.Intn(8)
	}
	if d.Intn(12) == 0 {
		f.Type = []int{0, 1, 0x8100, 65535}[d.Intn(4)]
	}
	if d.Intn(30) == 0 {
		f.Vid, f.Prio = d.Intn(3), d.Intn(9)
	}
	return f
}

func drawTable(d *rand.Rand) *fdb.Table {
	if d.Intn(20) == 0 {
		return nil
	}
	x := fdb.New()
	for range d.Intn(24) {
		x.Learn(drawVid(d), drawMac(d, 12), d.Intn(6), d.Intn(9))
	}
	return x
}

// follows fails if one that leaves isn't behind the last one, at another port than the first, that forwards and is a member of its network.
func follows(t *testing.T, ports []Port, in, last int, s Sent) {
	t.Helper()
	p := ports[s.Port]
	vid := s.Frame.Vid
	if !s.Frame.Tagged {
		vid = p.Pvid
	}
	if s.Port <= last || s.Port == in || p.State != api.Forwarding || !slices.Contains(p.Members, vid) || !frame.Good(s.Frame) {
		t.Errorf("%+v behind %d, of %d, at %+v", s, last, in, p)
	}
}

// TestDrawn: drawn frames at drawn ports, by drawn tables, against the model; and what P19.2 says of what leaves.
func TestDrawn(t *testing.T) {
	d := rand.New(rand.NewSource(19))
	sent, alone, learned := 0, 0, 0
	for range 60000 {
		if t.Failed() { // one drawn fault tells enough
			return
		}
		ports := make([]Port, d.Intn(8)+1)
		for i := range ports {
			ports[i] = drawPort(d)
		}
		in, f, x := d.Intn(len(ports)), drawFrame(d), drawTable(d)
		belongs(t, ports[in], f, network(ports[in], f))
		learns(t, ports, in, f, learnsBy(ports[in], f))
		var want []Sent
		for i := range ports {
			if g, yes := leavesBy(ports, in, i, f, x.All()); yes {
				want = append(want, Sent{i, g})
			}
		}
		leaves(t, ports, in, f, x, want...)
		last := -1
		for _, s := range Relay(ports, in, f, x) {
			follows(t, ports, in, last, s)
			last = s.Port
		}
		sent += len(want)
		if len(want) == 1 && x.Find(network(ports[in], f), f.Dst) >= 0 {
			alone++
		}
		if learnsBy(ports[in], f) {
			learned++
		}
	}
	if sent < 10000 || alone < 500 || learned < 10000 {
		t.Errorf("too little: %d left, %d alone, %d learned", sent, alone, learned)
	}
}
