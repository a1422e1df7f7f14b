package fdb

import (
	"math"
	"slices"
	"testing"

	"kissgate/addr"
	"kissgate/api"
)

// noVids, noMacs, noPorts are numbers that aren't what their names say, edgeVids, edgeMacs, edgePorts the outermost ones that are.
var (
	noVids    = []int{math.MinInt, -1 << 32, -4094, -1, 0, 4095, 4096, 65536, 1<<32 + 1, 1 << 62, math.MaxInt}
	noMacs    = []int{math.MinInt, -1 << 48, -1 << 40, -5, -1, 1 << 40, 1<<40 + 5, 1<<41 - 1, 0x030000000000, addr.Tree, addr.Vlans, addr.Group, addr.All, 1 << 48, 1<<48 + 5, 1 << 62, math.MaxInt}
	noPorts   = []int{math.MinInt, -1 << 32, -6, -2, -1, 6, 7, 255, 256, 1 << 32, 1<<32 + 1, math.MaxInt}
	edgeVids  = []int{1, 2, 4093, 4094}
	edgeMacs  = []int{0, 1, 1<<40 - 1, 1 << 41, 0x020000000001, 0xfeffffffffff}
	edgePorts = []int{0, 1, 4, 5}
	ticks     = []int{math.MinInt, math.MinInt + 1, -1 << 32, -61, -60, -1, 0, 1, 60, 61, 1 << 20, 1<<20 + 1, 1 << 32, math.MaxInt - 1, math.MaxInt}
)

// seen answers a place that was seen, said one that somebody said.
func seen(vid, mac, port, now int) Place { return Place{Vid: vid, Mac: mac, Port: port, Seen: now} }
func said(vid, mac, port int) Place      { return Place{Vid: vid, Mac: mac, Port: port, Static: true} }

// learns, fixes, drops fail unless a table answers so.
func learns(t *testing.T, x *Table, vid, mac, port, now int, want api.Errno) {
	t.Helper()
	if e := x.Learn(vid, mac, port, now); e != want {
		t.Fatalf("Learn(%d, %#x, %d, %d): %d, not %d", vid, mac, port, now, e, want)
	}
}

func fixes(t *testing.T, x *Table, vid, mac, port int, want api.Errno) {
	t.Helper()
	if e := x.Fix(vid, mac, port); e != want {
		t.Fatalf("Fix(%d, %#x, %d): %d, not %d", vid, mac, port, e, want)
	}
}

func drops(t *testing.T, x *Table, vid, mac int, want api.Errno) {
	t.Helper()
	if e := x.Drop(vid, mac); e != want {
		t.Fatalf("Drop(%d, %#x): %d, not %d", vid, mac, e, want)
	}
}

// at fails unless an address is at a port; -1: unless nobody knows.
func at(t *testing.T, x *Table, vid, mac, want int) {
	t.Helper()
	if port := x.Find(vid, mac); port != want {
		t.Fatalf("Find(%d, %#x): %d, not %d", vid, mac, port, want)
	}
}

// holds fails unless a table has just these places, in order, and finds each; fails unless so often there was no room.
func holds(t *testing.T, x *Table, want ...Place) {
	t.Helper()
	if got := x.All(); !slices.Equal(got, want) {
		t.Fatalf("All: %v, not %v", got, want)
	}
	for _, p := range want {
		at(t, x, p.Vid, p.Mac, p.Port)
	}
}

func fails(t *testing.T, x *Table, want int) {
	t.Helper()
	if got := x.Fails(); got != want {
		t.Fatalf("Fails: %d, not %d", got, want)
	}
}

// full answers a table without room to spare, of addresses 1, 2 and so on of the network 10, seen at as many ticks.
func full(t *testing.T, ticks ...int) *Table {
	t.Helper()
	x := New()
	for i, now := range ticks {
		learns(t, x, 10, i+1, i%6, now, api.OK)
	}
	if len(x.All()) != 24 {
		t.Fatalf("%d places", len(x.All()))
	}
	return x
}

// rising answers 24 ticks, from one on.
func rising(from int) []int {
	list := make([]int, 24)
	for i := range list {
		list[i] = from + i
	}
	return list
}

func TestExample(t *testing.T) {
	x := New()
	learns(t, x, 1, 5, 2, 10, api.OK)
	at(t, x, 1, 5, 2)
	x.Age(71)
	at(t, x, 1, 5, -1)
	holds(t, x)
}

func TestEmpty(t *testing.T) {
	x := New()
	holds(t, x)
	fails(t, x, 0)
	at(t, x, 1, 5, -1)
	at(t, x, 0, 0, -1)
	drops(t, x, 1, 5, api.ErrNone)
	for _, n := range ticks {
		x.Age(n)
		x.Flush(n)
	}
	holds(t, x)
}

// TestNil: of a nil table ErrNil, ahead of all other errors; else nothing.
func TestNil(t *testing.T) {
	var x *Table
	learns(t, x, 1, 5, 2, 10, api.ErrNil)
	learns(t, x, 0, -1, 6, -1, api.ErrNil)
	fixes(t, x, 1, 5, 2, api.ErrNil)
	fixes(t, x, 0, -1, 6, api.ErrNil)
	drops(t, x, 1, 5, api.ErrNil)
	drops(t, x, 0, -1, api.ErrNil)
	x.Age(71)
	x.Flush(0)
	x.Flush(-1)
	holds(t, x)
	fails(t, x, 0)
	at(t, x, 1, 5, -1)
}

func TestWhatCanBe(t *testing.T) {
	for _, vid := range edgeVids {
		for _, mac := range edgeMacs {
			for _, port := range edgePorts {
				for _, now := range ticks {
					x := New()
					learns(t, x, vid, mac, port, now, api.OK)
					holds(t, x, seen(vid, mac, port, now))
				}
				x := New()
				fixes(t, x, vid, mac, port, api.OK)
				holds(t, x, said(vid, mac, port))
			}
		}
	}
}

// TestWhatCannotBe: it changes nothing, and doesn't count, wherever there is room, or none.
func TestWhatCannotBe(t *testing.T) {
	small, wide, shut := New(), full(t, rising(0)...), New()
	learns(t, small, 1, 5, 2, 10, api.OK)
	for i := range 24 {
		fixes(t, shut, 1, i+5, 1, api.OK)
	}
	for _, x := range []*Table{New(), small, wide, shut} {
		had := x.All()
		none := func(vid, mac, port int) {
			t.Helper()
			learns(t, x, vid, mac, port, 11, api.ErrArg)
			fixes(t, x, vid, mac, port, api.ErrArg)
		}
		for _, vid := range noVids {
			none(vid, 5, 2)
			none(vid, addr.All, 6)
		}
		for _, mac := range noMacs {
			none(1, mac, 2)
			none(0, mac, 2)
		}
		for _, port := range noPorts {
			none(1, 5, port)
			none(1, addr.All, port)
		}
		holds(t, x, had...)
		fails(t, x, 0)
	}
}

// TestWhatCannotBeIsNowhere: nobody knows of it, and it can't be dropped, though others look like it by their lowest bits.
func TestWhatCannotBeIsNowhere(t *testing.T) {
	x := New()
	learns(t, x, 1, 5, 2, 10, api.OK)
	fixes(t, x, 1, 0, 3, api.OK)
	for _, vid := range noVids {
		at(t, x, vid, 5, -1)
		drops(t, x, vid, 5, api.ErrNone)
	}
	for _, mac := range noMacs {
		at(t, x, 1, mac, -1)
		drops(t, x, 1, mac, api.ErrNone)
	}
	holds(t, x, said(1, 0, 3), seen(1, 5, 2, 10))
}

// TestLastCounts: by when it was told, though the ticks go back.
func TestLastCounts(t *testing.T) {
	for _, a := range ticks {
		for _, b := range ticks {
			x := New()
			learns(t, x, 1, 5, 2, a, api.OK)
			learns(t, x, 1, 5, 3, b, api.OK)
			holds(t, x, seen(1, 5, 3, b))
			learns(t, x, 1, 5, 3, a, api.OK)
			holds(t, x, seen(1, 5, 3, a))
		}
	}
}

// TestNetworksAndAddresses: a place is of both.
func TestNetworksAndAddresses(t *testing.T) {
	x := New()
	learns(t, x, 1, 5, 0, 10, api.OK)
	learns(t, x, 2, 5, 1, 11, api.OK)
	learns(t, x, 1, 6, 2, 12, api.OK)
	fixes(t, x, 5, 1, 3, api.OK)
	holds(t, x, seen(1, 5, 0, 10), seen(1, 6, 2, 12), seen(2, 5, 1, 11), said(5, 1, 3))
	at(t, x, 2, 6, -1)
	at(t, x, 5, 2, -1)
	drops(t, x, 2, 6, api.ErrNone)
	drops(t, x, 1, 5, api.OK)
	holds(t, x, seen(1, 6, 2, 12), seen(2, 5, 1, 11), said(5, 1, 3))
}

// TestInOrder: by networks, then by addresses, in whatever order they come.
func TestInOrder(t *testing.T) {
	order := []Place{
		seen(1, 0, 5, 9), seen(1, 2, 4, -3), said(1, 1<<40-1, 3), seen(1, 1<<41, 2, 0), seen(2, 1, 1, 7),
		said(2, 3, 0), seen(10, 2, 0, 7), seen(256, 1, 1, 7), seen(4094, 0, 2, -9), said(4094, 0xfeffffffffff, 3),
	}
	for shift := range order {
		for _, turned := range [][]Place{slices.Concat(order[shift:], order[:shift]), reversed(order[shift:], order[:shift])} {
			x := New()
			for _, p := range turned {
				puts(t, x, p)
			}
			holds(t, x, order...)
		}
	}
}

// puts: a place comes to be in a table, as it is.
func puts(t *testing.T, x *Table, p Place) {
	t.Helper()
	if p.Static {
		fixes(t, x, p.Vid, p.Mac, p.Port, api.OK)
	} else {
		learns(t, x, p.Vid, p.Mac, p.Port, p.Seen, api.OK)
	}
}

// reversed answers lists, one behind the other, from the end on.
func reversed(lists ...[]Place) []Place {
	list := slices.Concat(lists...)
	slices.Reverse(list)
	return list
}

// TestSaidStays: what somebody said isn't learned anew, doesn't grow old, and isn't flushed; who says it anew moves it.
func TestSaidStays(t *testing.T) {
	x := New()
	fixes(t, x, 1, 6, 1, api.OK)
	for _, now := range ticks {
		learns(t, x, 1, 6, 4, now, api.OK)
		x.Age(now)
	}
	for port := -2; port < 8; port++ {
		x.Flush(port)
	}
	holds(t, x, said(1, 6, 1))
	fixes(t, x, 1, 6, 5, api.OK)
	holds(t, x, said(1, 6, 5))
	drops(t, x, 1, 6, api.OK)
	drops(t, x, 1, 6, api.ErrNone)
	learns(t, x, 1, 6, 4, 12, api.OK)
	holds(t, x, seen(1, 6, 4, 12))
	fails(t, x, 0)
}

// TestSaidOfSeen: what was seen ahead becomes what somebody said, and when it was seen is forgotten.
func TestSaidOfSeen(t *testing.T) {
	x := New()
	learns(t, x, 1, 6, 4, 12, api.OK)
	fixes(t, x, 1, 6, 4, api.OK)
	holds(t, x, said(1, 6, 4))
	x.Age(1000)
	x.Flush(4)
	holds(t, x, said(1, 6, 4))
}

// TestAge: 60 ticks it stays, from whichever tick on; then it goes.
func TestAge(t *testing.T) {
	for _, now := range ticks {
		for on := -200; on <= 200; on++ {
			x := New()
			learns(t, x, 1, 5, 2, now, api.OK)
			fixes(t, x, 1, 4, 3, api.OK)
			x.Age(now + on) // round, at the ends
			if on > 60 {
				holds(t, x, said(1, 4, 3))
			} else {
				holds(t, x, said(1, 4, 3), seen(1, 5, 2, now))
			}
		}
	}
}

// TestAgeOfSome: what was seen in the meantime stays, and what was seen once more.
func TestAgeOfSome(t *testing.T) {
	x := New()
	learns(t, x, 1, 1, 0, -50, api.OK)
	learns(t, x, 1, 2, 0, 10, api.OK)
	learns(t, x, 1, 3, 0, -51, api.OK)
	learns(t, x, 1, 4, 0, 11, api.OK)
	learns(t, x, 1, 5, 0, 100, api.OK)
	x.Age(9)
	holds(t, x, seen(1, 1, 0, -50), seen(1, 2, 0, 10), seen(1, 3, 0, -51), seen(1, 4, 0, 11), seen(1, 5, 0, 100))
	x.Age(10)
	holds(t, x, seen(1, 1, 0, -50), seen(1, 2, 0, 10), seen(1, 4, 0, 11), seen(1, 5, 0, 100))
	learns(t, x, 1, 1, 0, 12, api.OK)
	x.Age(71)
	holds(t, x, seen(1, 1, 0, 12), seen(1, 4, 0, 11), seen(1, 5, 0, 100))
	x.Age(-1000)
	holds(t, x, seen(1, 1, 0, 12), seen(1, 4, 0, 11), seen(1, 5, 0, 100))
	learns(t, x, 1, 5, 1, 10, api.OK) // the ticks go back
	x.Age(72)
	holds(t, x, seen(1, 1, 0, 12))
	x.Age(73)
	holds(t, x)
}

func TestFlush(t *testing.T) {
	all := []Place{seen(1, 1, 0, 1), seen(1, 2, 1, 2), said(1, 3, 1), seen(1, 4, 5, 4), seen(2, 1, 1, 5), seen(2, 2, 0, 6), said(2, 3, 0)}
	for _, c := range []struct {
		port int
		left []Place
	}{
		{0, []Place{all[1], all[2], all[3], all[4], all[6]}},
		{1, []Place{all[0], all[2], all[3], all[5], all[6]}},
		{2, all},
		{5, []Place{all[0], all[1], all[2], all[4], all[5], all[6]}},
		{6, all},
		{1 << 32, all},
		{math.MaxInt, all},
		{-1, []Place{all[2], all[6]}},
		{-6, []Place{all[2], all[6]}},
		{math.MinInt, []Place{all[2], all[6]}},
	} {
		x := New()
		for _, p := range all {
			puts(t, x, p)
		}
		x.Flush(c.port)
		holds(t, x, c.left...)
		fails(t, x, 0)
	}
}

// TestSeenFirstGoes: where there is no room, in favour of what is new, wherever it stands, however old that is.
func TestSeenFirstGoes(t *testing.T) {
	for first := range 24 {
		for _, now := range []int{math.MinInt, -100, 0, 106, 1000, math.MaxInt} {
			for _, p := range []Place{seen(1, 9, 3, now), seen(10, 99, 3, now), said(10, 99, 2), said(4094, 0, 5)} {
				list := rising(100)
				list[first] = -7
				x := full(t, list...)
				want := slices.Delete(x.All(), first, first+1)
				want = slices.Insert(want, len(want)*min(p.Vid-1, 1), p) // ahead of all others, or behind them
				puts(t, x, p)
				holds(t, x, want...)
				at(t, x, 10, first+1, -1)
				fails(t, x, 0)
			}
		}
	}
}

// TestSeenFirstOfSeveral: the first one in order goes, not that which came first.
func TestSeenFirstOfSeveral(t *testing.T) {
	for a := range 24 {
		for b := range a {
			list := rising(100)
			list[a], list[b] = 5, 5
			x := full(t, list...)
			learns(t, x, 10, b+1, 0, 5, api.OK) // once more, behind the other one
			learns(t, x, 11, 1, 0, 200, api.OK)
			at(t, x, 10, b+1, -1)
			at(t, x, 10, a+1, a%6)
			learns(t, x, 11, 2, 0, 200, api.OK)
			at(t, x, 10, a+1, -1)
		}
	}
	same := make([]int, 24)
	x := full(t, same...)
	for i := range 24 {
		learns(t, x, 20, i+1, 0, 0, api.OK)
		at(t, x, 10, i+1, -1)
	}
	learns(t, x, 1, 1, 0, 0, api.OK) // what has come now counts like others
	learns(t, x, 20, 99, 0, 0, api.OK)
	at(t, x, 1, 1, -1)
	at(t, x, 20, 2, 0)
}

// TestSeenFirstOfFar: of ticks however far from one another the least one goes.
func TestSeenFirstOfFar(t *testing.T) {
	for i, late := range ticks {
		for _, early := range ticks[:i] {
			list := make([]int, 24)
			for k := range list {
				list[k] = late
			}
			list[7] = early
			x := full(t, list...)
			learns(t, x, 11, 1, 0, late, api.OK)
			at(t, x, 10, 8, -1)
			at(t, x, 10, 1, 0)
		}
	}
}

// TestSeenOnceMore: what is seen once more isn't what was seen first any more, and needs no room.
func TestSeenOnceMore(t *testing.T) {
	x := full(t, rising(100)...)
	learns(t, x, 10, 1, 3, 200, api.OK)
	learns(t, x, 10, 5, 3, 50, api.OK) // the ticks go back
	if len(x.All()) != 24 {
		t.Fatalf("%d places", len(x.All()))
	}
	learns(t, x, 11, 1, 0, 300, api.OK)
	at(t, x, 10, 5, -1)
	learns(t, x, 11, 2, 0, 300, api.OK)
	at(t, x, 10, 2, -1)
	at(t, x, 10, 1, 3)
}

// TestSaidIsNotSeenFirst: of what somebody said none goes, though it was seen at 0.
func TestSaidIsNotSeenFirst(t *testing.T) {
	x := full(t, rising(100)...)
	fixes(t, x, 10, 1, 5, api.OK) // where it is, no other one goes
	fixes(t, x, 10, 3, 5, api.OK)
	if len(x.All()) != 24 {
		t.Fatalf("%d places", len(x.All()))
	}
	learns(t, x, 11, 1, 0, 200, api.OK)
	learns(t, x, 11, 2, 0, 200, api.OK)
	at(t, x, 10, 1, 5)
	at(t, x, 10, 2, -1)
	at(t, x, 10, 3, 5)
	at(t, x, 10, 4, -1)
	at(t, x, 10, 5, 4)
	fails(t, x, 0)
}

// TestNoRoom: where somebody said all; each time it counts, and nothing changes but that; what is there needs no room.
func TestNoRoom(t *testing.T) {
	x := New()
	for i := range 24 {
		fixes(t, x, 1, i+1, i%6, api.OK)
	}
	had := x.All()
	learns(t, x, 1, 99, 0, 1, api.ErrFull)
	fixes(t, x, 1, 99, 0, api.ErrFull)
	learns(t, x, 2, 1, 0, 1, api.ErrFull)
	fails(t, x, 3)
	learns(t, x, 0, 1, 0, 1, api.ErrArg)
	learns(t, x, 1, 24, 0, 1, api.OK)
	holds(t, x, had...)
	fixes(t, x, 1, 24, 2, api.OK)
	at(t, x, 1, 24, 2)
	fails(t, x, 3)
	x.Age(1000)
	x.Flush(-1)
	learns(t, x, 1, 99, 0, 1, api.ErrFull)
	fails(t, x, 4)
	drops(t, x, 1, 7, api.OK)
	learns(t, x, 1, 99, 0, 1, api.OK)
	fixes(t, x, 1, 100, 0, api.OK) // the one that was seen goes
	at(t, x, 1, 99, -1)
	learns(t, x, 1, 99, 0, 1, api.ErrFull)
	fails(t, x, 5)
}

// TestRoomAgain: what goes makes room, by whichever call.
func TestRoomAgain(t *testing.T) {
	for _, goes := range []func(x *Table){
		func(x *Table) { x.Age(161) },
		func(x *Table) { x.Flush(0) },
		func(x *Table) { x.Flush(-1) },
		func(x *Table) { x.Drop(10, 1) },
	} {
		x := full(t, rising(100)...)
		goes(x)
		left := x.All()
		learns(t, x, 11, 1, 0, 200, api.OK)
		if slices.Contains(left, seen(10, 1, 0, 100)) {
			t.Fatalf("it hasn't gone: %v", left)
		}
		holds(t, x, append(left, seen(11, 1, 0, 200))...)
	}
}

// TestAnswersAreNew: who writes into an answer doesn't write into the table, and an answer stays as it was.
func TestAnswersAreNew(t *testing.T) {
	x := New()
	learns(t, x, 1, 5, 2, 10, api.OK)
	learns(t, x, 1, 7, 2, 10, api.OK)
	list, other := x.All(), x.All()
	_ = append(list[:1], seen(9, 9, 9, 9))
	list[0] = seen(8, 8, 8, 8)
	holds(t, x, seen(1, 5, 2, 10), seen(1, 7, 2, 10))
	learns(t, x, 1, 6, 3, 11, api.OK)
	learns(t, x, 1, 5, 4, 12, api.OK)
	drops(t, x, 1, 7, api.OK)
	if !slices.Equal(other, []Place{seen(1, 5, 2, 10), seen(1, 7, 2, 10)}) {
		t.Fatalf("an answer has changed: %v", other)
	}
	holds(t, x, seen(1, 5, 4, 12), seen(1, 6, 3, 11))
}

// TestTwoTables: they know nothing of one another.
func TestTwoTables(t *testing.T) {
	x, y := New(), New()
	learns(t, x, 1, 5, 2, 10, api.OK)
	fixes(t, y, 1, 5, 3, api.OK)
	holds(t, x, seen(1, 5, 2, 10))
	x.Flush(-1)
	holds(t, x)
	holds(t, y, said(1, 5, 3))
}
