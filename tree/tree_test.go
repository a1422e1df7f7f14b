package tree

import (
	"math"
	"math/rand"
	"slices"
	"testing"

	"kissgate/api"
)

const (
	many = 1 << 40 // of an address: that it is one of many
	rank = 1 << 48 // of a name: a rank by 1
)

// far are numbers far from those of ports, costs and the like.
var far = []int{math.MinInt, math.MinInt + 1, -1 << 32, -256, -2, 1<<32 + 1, 1 << 40, math.MaxInt - 1, math.MaxInt}

func v(root, cost, bridge, port int) api.Vector {
	return api.Vector{Root: root, Cost: cost, Bridge: bridge, Port: port}
}

// told answers a message about the tree, as a designated port says it.
func told(vector api.Vector, age int) api.Bpdu {
	return api.Bpdu{Vector: vector, Age: age, Role: api.RoleDesignated}
}

// up answers a bridge's part whose ports are all up since a tick, each way at a cost of 10.
func up(t *testing.T, id, ports, now int) *Tree {
	t.Helper()
	b := New(id, ports)
	for i := range ports {
		sets(t, b, i, true, 10, now, api.OK)
	}
	return b
}

// sets fails unless a port is set so, with that answer.
func sets(t *testing.T, b *Tree, i int, up bool, cost, now int, want api.Errno) {
	t.Helper()
	if got := b.Set(i, up, cost, now); got != want {
		t.Fatalf("Set(%d, %v, %d, %d): %d, not %d", i, up, cost, now, got, want)
	}
}

// hears fails unless a message is heard so, with that answer.
func hears(t *testing.T, b *Tree, i int, m api.Bpdu, now int, want api.Errno) {
	t.Helper()
	if got := b.Hear(i, m, now); got != want {
		t.Fatalf("Hear(%d, %+v, %d): %d, not %d", i, m, now, got, want)
	}
}

// says fails unless a bridge says just that at a tick.
func says(t *testing.T, b *Tree, now int, want ...Said) {
	t.Helper()
	if got := b.Tick(now); !slices.Equal(got, want) {
		t.Fatalf("Tick(%d): %+v, not %+v", now, got, want)
	}
}

// holds fails unless a bridge's best is that, by that root port, and its ports have those roles.
func holds(t *testing.T, b *Tree, best api.Vector, root int, roles ...int) {
	t.Helper()
	if b.Best() != best || b.Root() != root {
		t.Fatalf("%v, %d, not %v, %d", b.Best(), b.Root(), best, root)
	}
	for i, want := range roles {
		if got := b.Role(i); got != want {
			t.Fatalf("the port %d: the role %d, not %d", i, got, want)
		}
	}
	if b.Ports() != len(roles) {
		t.Fatalf("%d ports", b.Ports())
	}
}

// states fails unless a bridge's ports are in those states at a tick.
func states(t *testing.T, b *Tree, now int, want ...int) {
	t.Helper()
	for i, state := range want {
		if got := b.State(i, now); got != state {
			t.Fatalf("State(%d, %d): %d, not %d", i, now, got, state)
		}
	}
}

// saidOf answers what a bridge says that holds itself the root.
func saidOf(id int, change bool, ports ...int) []Said {
	var list []Said
	for _, i := range ports {
		m := told(v(id, 0, id, i), 0)
		m.Change = change
		list = append(list, Said{Port: i, Bpdu: m})
	}
	return list
}

func TestExample(t *testing.T) {
	b := New(5, 1)
	says(t, b, 2)
	sets(t, b, 0, true, 10, 3, api.OK)
	says(t, b, 3)
	says(t, b, 4, saidOf(5, false, 0)...)
	says(t, b, 5)
}

func TestNew(t *testing.T) {
	for _, id := range []int{1, 2, many - 1, 2*many + 1, rank, 8*rank + 7, 15*rank + many - 1} {
		for ports := 1; ports <= 6; ports++ {
			b := New(id, ports)
			if b == nil || b.Id() != id || b.Ports() != ports {
				t.Fatalf("%#x, %d: %d, %d", id, ports, b.Id(), b.Ports())
			}
			holds(t, b, v(id, 0, id, 0), -1, make([]int, ports)...)
			states(t, b, 1<<20, make([]int, ports)...)
			for now := range 20 {
				says(t, b, now)
			}
		}
	}
}

func TestNewOfWhatCannotBe(t *testing.T) {
	for _, ports := range append([]int{-1, 0, 7, 8, 256}, far...) {
		if New(1, ports) != nil || New(0, ports) != nil {
			t.Errorf("%d ports", ports)
		}
	}
	for _, id := range append([]int{-1, 0, many, many + 1, rank - 1, rank + many, 16 * rank, 16*rank + 1, 1 << 62, -rank + 1}, math.MinInt, math.MaxInt) {
		for ports := range 8 {
			if New(id, ports) != nil {
				t.Errorf("%#x, %d", id, ports)
			}
		}
	}
}

func TestNil(t *testing.T) {
	var b *Tree
	for _, i := range append([]int{-1, 0, 1, 6}, far...) {
		sets(t, b, i, true, 1, 5, api.ErrNil)
		sets(t, b, i, false, 0, -5, api.ErrNil)
		hears(t, b, i, told(v(1, 0, 1, 0), 0), 5, api.ErrNil)
		hears(t, b, i, api.Bpdu{}, 5, api.ErrNil)
		if b.Role(i) != 0 || b.State(i, i) != 0 {
			t.Errorf("%d", i)
		}
		says(t, b, i)
	}
	holds(t, b, api.Vector{}, -1)
	if b.Id() != 0 {
		t.Error("a name of none")
	}
}

func TestPortsThatAreNot(t *testing.T) {
	for ports := 1; ports <= 6; ports++ {
		b := up(t, 5, ports, 0)
		for _, i := range append([]int{-1, ports, ports + 1, 255, 256}, far...) {
			sets(t, b, i, true, 1, 0, api.ErrArg)
			hears(t, b, i, told(v(1, 0, 1, 0), 0), 0, api.ErrArg)
			if b.Role(i) != api.RoleNone || b.State(i, 99) != api.Discarding {
				t.Fatalf("%d of %d: %d, %d", i, ports, b.Role(i), b.State(i, 99))
			}
		}
		holds(t, b, v(5, 0, 5, 0), -1, []int{2, 2, 2, 2, 2, 2}[:ports]...)
	}
}

func TestSetByCost(t *testing.T) {
	for _, cost := range []int{1, 2, 1 << 16, 1<<24 - 1, 1 << 24} {
		b := New(5, 2)
		sets(t, b, 1, true, cost, 0, api.OK)
		hears(t, b, 1, told(v(1, 3, 2, 4), 1), 0, api.OK)
		holds(t, b, v(1, 3+cost, 2, 4), 1, api.RoleNone, api.RoleRoot)
	}
	for _, cost := range append([]int{-1, 0, 1<<24 + 1}, far...) {
		b := up(t, 5, 2, 0)
		hears(t, b, 1, told(v(1, 3, 2, 4), 1), 0, api.OK)
		sets(t, b, 1, true, cost, 1, api.ErrArg)
		sets(t, b, 1, false, cost, 1, api.ErrArg) // a way that is down costs something, too
		sets(t, b, 0, false, cost, 1, api.ErrArg)
		sets(t, b, 2, true, cost, 1, api.ErrArg)
		holds(t, b, v(1, 13, 2, 4), 1, api.RoleDesignated, api.RoleRoot)
		states(t, b, 8, api.Forwarding, api.Forwarding)
		states(t, b, 7, api.Learning, api.Learning)
	}
}

// wrongs are messages that can't be, or aren't those of designated ports.
func wrongs() []api.Bpdu {
	ms := []api.Bpdu{
		{}, {Role: api.RoleDesignated},
		told(v(0, 0, 1, 0), 0), told(v(-1, 0, 1, 0), 0), told(v(many, 0, 1, 0), 0), told(v(16*rank, 0, 1, 0), 0),
		told(v(1, 0, 0, 0), 0), told(v(1, 0, -1, 0), 0), told(v(1, 0, many+1, 0), 0), told(v(1, 0, 16*rank+1, 0), 0),
		told(v(1, -1, 1, 0), 0), told(v(1, 1<<31, 1, 0), 0), told(v(1, 0, 1, -1), 0), told(v(1, 0, 1, 6), 0),
		told(v(1, 0, 1, 0), -1), told(v(1, 0, 1, 0), 11),
	}
	for _, role := range append([]int{-1, 0, 1, 3, 4, 6}, far...) {
		for _, change := range []bool{false, true} {
			ms = append(ms, api.Bpdu{Vector: v(1, 0, 1, 0), Role: role, Change: change})
		}
	}
	return ms
}

func TestHearWhatIsWrong(t *testing.T) {
	for _, m := range wrongs() {
		b := New(5, 3)
		sets(t, b, 0, true, 10, 0, api.OK)
		sets(t, b, 1, true, 10, 0, api.OK)
		hears(t, b, 1, told(v(3, 3, 3, 3), 3), 0, api.OK)
		for i := -1; i <= 3; i++ { // that it is wrong counts more than that the port is down
			hears(t, b, i, m, 9, api.ErrArg)
		}
		holds(t, b, v(3, 13, 3, 3), 1, api.RoleDesignated, api.RoleRoot, api.RoleNone)
		states(t, b, 8, api.Forwarding, api.Forwarding, api.Discarding)
		// What was heard at the port ahead isn't younger for it.
		says(t, b, 15)
		holds(t, b, v(5, 0, 5, 0), -1, api.RoleDesignated, api.RoleDesignated, api.RoleNone)
	}
}

func TestHearWhatCanBe(t *testing.T) {
	for _, c := range []struct {
		m    api.Bpdu
		best api.Vector
	}{
		{told(v(1, 0, 1, 0), 0), v(1, 10, 1, 0)},
		{told(v(1, 1<<31-1, 1, 5), 9), v(1, 1<<31+9, 1, 5)},
		{told(v(4, 7, 15*rank, 5), 1), v(4, 17, 15*rank, 5)},
		{told(v(4, 7, 1, 5), 1), v(4, 17, 1, 5)},
	} {
		for _, c.m.Change = range []bool{false, true} {
			b := New(5, 1)
			hears(t, b, 0, c.m, 0, api.ErrDown)
			holds(t, b, v(5, 0, 5, 0), -1, api.RoleNone)
			sets(t, b, 0, true, 10, 0, api.OK)
			holds(t, b, v(5, 0, 5, 0), -1, api.RoleDesignated)
			hears(t, b, 0, c.m, 1, api.OK)
			holds(t, b, c.best, 0, api.RoleRoot)
		}
	}
}

// TestHearWhatIsOfNoUse: it is taken, and makes no way to a root.
func TestHearWhatIsOfNoUse(t *testing.T) {
	for _, m := range []api.Bpdu{
		told(v(4, 7, 1, 5), 10), // too old
		told(v(4, 7, 5, 0), 1),  // what it said itself
		told(v(6, 0, 6, 0), 0),  // its own offer is better
	} {
		b := up(t, 5, 2, 0)
		hears(t, b, 0, told(v(2, 0, 2, 0), 0), 1, api.OK)
		holds(t, b, v(2, 10, 2, 0), 0, api.RoleRoot, api.RoleDesignated)
		hears(t, b, 0, m, 2, api.OK)
		holds(t, b, v(5, 0, 5, 0), -1, api.RoleDesignated, api.RoleDesignated)
	}
}

// TestHearInThePlaceOfWhatWas: what is heard last counts, though it be worse.
func TestHearInThePlaceOfWhatWas(t *testing.T) {
	b := up(t, 9, 2, 0)
	hears(t, b, 0, told(v(1, 0, 1, 0), 0), 1, api.OK)
	hears(t, b, 1, told(v(2, 0, 2, 0), 0), 1, api.OK)
	holds(t, b, v(1, 10, 1, 0), 0, api.RoleRoot, api.RoleDesignated)
	hears(t, b, 0, told(v(3, 0, 3, 0), 0), 1, api.OK)
	holds(t, b, v(2, 10, 2, 0), 1, api.RoleDesignated, api.RoleRoot)
	hears(t, b, 0, told(v(2, 0, 2, 1), 0), 1, api.OK)
	holds(t, b, v(2, 10, 2, 0), 1, api.RoleAlternate, api.RoleRoot)
	hears(t, b, 1, told(v(2, 2, 2, 0), 0), 1, api.OK)
	holds(t, b, v(2, 10, 2, 1), 0, api.RoleRoot, api.RoleAlternate)
}

func TestForgetsWhatIsOld(t *testing.T) {
	for _, at := range []int{0, 1, 6, 7, 1 << 40} {
		b := up(t, 5, 2, at)
		hears(t, b, 0, told(v(1, 0, 1, 0), 0), at, api.OK)
		hears(t, b, 1, told(v(2, 0, 2, 0), 0), at+3, api.OK)
		for now := at; now <= at+14; now++ {
			b.Tick(now)
			holds(t, b, v(1, 10, 1, 0), 0, api.RoleRoot, api.RoleDesignated)
		}
		for now := at + 15; now <= at+17; now++ {
			b.Tick(now)
			holds(t, b, v(2, 10, 2, 0), 1, api.RoleDesignated, api.RoleRoot)
		}
		b.Tick(at + 18)
		holds(t, b, v(5, 0, 5, 0), -1, api.RoleDesignated, api.RoleDesignated)
	}
}

// TestForgetsAtTicksAlone: till a tick comes what is old counts, and messages don't stand for ticks.
func TestForgetsAtTicksAlone(t *testing.T) {
	b := up(t, 5, 2, 0)
	hears(t, b, 0, told(v(1, 0, 1, 0), 0), 0, api.OK)
	hears(t, b, 1, told(v(2, 0, 2, 0), 0), 90, api.OK)
	holds(t, b, v(1, 10, 1, 0), 0, api.RoleRoot, api.RoleDesignated)
	sets(t, b, 1, true, 11, 95, api.OK)
	holds(t, b, v(1, 10, 1, 0), 0, api.RoleRoot, api.RoleDesignated)
	b.Tick(95)
	holds(t, b, v(2, 11, 2, 0), 1, api.RoleDesignated, api.RoleRoot)
}

func TestHeardAgainIsNotOld(t *testing.T) {
	b := up(t, 5, 1, 0)
	for now := range 200 {
		if now%14 == 0 {
			hears(t, b, 0, told(v(1, 0, 1, 0), 0), now, api.OK)
		}
		b.Tick(now)
		holds(t, b, v(1, 10, 1, 0), 0, api.RoleRoot)
	}
	states(t, b, 200, api.Forwarding)
}

// TestUpAndDownForget: what was heard is forgotten, and the port comes to forward from the beginning.
func TestUpAndDownForget(t *testing.T) {
	b := up(t, 5, 2, 0)
	hears(t, b, 0, told(v(1, 0, 1, 0), 0), 0, api.OK)
	states(t, b, 8, api.Forwarding, api.Forwarding)
	sets(t, b, 0, false, 10, 9, api.OK)
	holds(t, b, v(5, 0, 5, 0), -1, api.RoleNone, api.RoleDesignated)
	states(t, b, 99, api.Discarding, api.Forwarding)
	hears(t, b, 0, told(v(1, 0, 1, 0), 0), 9, api.ErrDown)
	holds(t, b, v(5, 0, 5, 0), -1, api.RoleNone, api.RoleDesignated)
	sets(t, b, 0, true, 10, 9, api.OK)
	holds(t, b, v(5, 0, 5, 0), -1, api.RoleDesignated, api.RoleDesignated)
	states(t, b, 12, api.Discarding, api.Forwarding)
	states(t, b, 13, api.Learning, api.Forwarding)
	states(t, b, 17, api.Forwarding, api.Forwarding)
}

// TestOnePortForgets: what was heard at the others stays.
func TestOnePortForgets(t *testing.T) {
	b := up(t, 5, 3, 0)
	hears(t, b, 0, told(v(1, 0, 1, 0), 0), 0, api.OK)
	hears(t, b, 1, told(v(1, 0, 1, 1), 0), 0, api.OK)
	holds(t, b, v(1, 10, 1, 0), 0, api.RoleRoot, api.RoleAlternate, api.RoleDesignated)
	sets(t, b, 0, false, 10, 3, api.OK)
	holds(t, b, v(1, 10, 1, 1), 1, api.RoleNone, api.RoleRoot, api.RoleDesignated)
	states(t, b, 10, api.Discarding, api.Learning, api.Forwarding)
	states(t, b, 11, api.Discarding, api.Forwarding, api.Forwarding)
}

// TestSetAgain: a port that stays up keeps what was heard, and its role, and its way costs what it is said to cost from then on.
func TestSetAgain(t *testing.T) {
	b := up(t, 5, 2, 0)
	hears(t, b, 0, told(v(1, 0, 1, 0), 0), 0, api.OK)
	hears(t, b, 1, told(v(1, 0, 1, 1), 0), 0, api.OK)
	sets(t, b, 0, true, 10, 5, api.OK)
	holds(t, b, v(1, 10, 1, 0), 0, api.RoleRoot, api.RoleAlternate)
	states(t, b, 8, api.Forwarding, api.Discarding)
	sets(t, b, 0, true, 7, 8, api.OK)
	holds(t, b, v(1, 7, 1, 0), 0, api.RoleRoot, api.RoleAlternate)
	states(t, b, 8, api.Forwarding, api.Discarding)
	sets(t, b, 1, true, 6, 9, api.OK)
	holds(t, b, v(1, 6, 1, 1), 1, api.RoleAlternate, api.RoleRoot)
	states(t, b, 16, api.Discarding, api.Learning)
	states(t, b, 17, api.Discarding, api.Forwarding)
	says(t, b, 14) // 14 ticks behind what was heard, and not behind what was set
	holds(t, b, v(1, 6, 1, 1), 1, api.RoleAlternate, api.RoleRoot)
	b.Tick(15)
	holds(t, b, v(5, 0, 5, 0), -1, api.RoleDesignated, api.RoleDesignated)
}

// TestSetDownAgain: a port that stays down has no role, whatever its way costs.
func TestSetDownAgain(t *testing.T) {
	b := New(5, 2)
	for cost := 1; cost < 9; cost++ {
		sets(t, b, 1, false, cost, cost, api.OK)
		holds(t, b, v(5, 0, 5, 0), -1, api.RoleNone, api.RoleNone)
		says(t, b, cost)
	}
}

func TestSaysAtHelloTicks(t *testing.T) {
	b := up(t, 5, 6, 100)
	sets(t, b, 2, false, 10, 100, api.OK)
	for now := 100; now < 108; now++ {
		if now%2 == 0 {
			says(t, b, now, saidOf(5, false, 0, 1, 3, 4, 5)...)
		} else {
			says(t, b, now)
		}
	}
}

// TestSaysAtDesignatedPorts: at root ports, alternate ones and such that are down it says nothing.
func TestSaysAtDesignatedPorts(t *testing.T) {
	b := up(t, 5, 6, 0)
	sets(t, b, 5, false, 10, 0, api.OK)
	hears(t, b, 1, told(v(1, 20, 4, 0), 3), 0, api.OK)
	hears(t, b, 2, told(v(1, 20, 4, 1), 4), 0, api.OK)
	hears(t, b, 4, told(v(1, 30, 6, 1), 4), 0, api.OK)
	holds(t, b, v(1, 30, 4, 0), 1, api.RoleDesignated, api.RoleRoot, api.RoleAlternate, api.RoleDesignated, api.RoleDesignated, api.RoleNone)
	want := []Said{{0, told(v(1, 30, 5, 0), 4)}, {3, told(v(1, 30, 5, 3), 4)}, {4, told(v(1, 30, 5, 4), 4)}}
	for now := range 8 {
		if now%2 == 0 {
			says(t, b, now, want...)
		} else {
			says(t, b, now)
		}
	}
}

// TestAge: it is that of what was heard at the root port, and one more, however long ago that was.
func TestAge(t *testing.T) {
	for age := range 10 {
		b := up(t, 5, 3, 0)
		hears(t, b, 1, told(v(1, 0, 1, 0), age), 0, api.OK)
		hears(t, b, 2, told(v(1, 0, 1, 1), 9-age), 0, api.OK)
		for _, now := range []int{0, 4, 6} {
			says(t, b, now, Said{0, told(v(1, 10, 5, 0), age+1)})
		}
		hears(t, b, 1, told(v(1, 0, 1, 0), 10), 6, api.OK) // of no use any more
		says(t, b, 6, Said{0, told(v(1, 10, 5, 0), 10-age)}, Said{1, told(v(1, 10, 5, 1), 10-age)})
		hears(t, b, 2, told(v(1, 0, 1, 0), 10), 6, api.OK)
		says(t, b, 6, saidOf(5, false, 0, 1, 2)...)
	}
}

// TestTooDearToBeSaid: what costs more than a message holds is told all the same; that it doesn't go out is another layer's.
func TestTooDearToBeSaid(t *testing.T) {
	b := up(t, 5, 2, 0)
	hears(t, b, 0, told(v(1, 1<<31-1, 1, 0), 0), 0, api.OK)
	says(t, b, 0, Said{1, told(v(1, 1<<31+9, 5, 1), 1)})
}

// changes fails unless a bridge that holds itself the root, and has one port, says just at ticks from first to last that something changed.
func changes(t *testing.T, b *Tree, from, first, last, to int) {
	t.Helper()
	for now := from; now <= to; now++ {
		if now%2 != 0 {
			says(t, b, now)
			continue
		}
		says(t, b, now, saidOf(b.Id(), first <= now && now <= last, 0)...)
	}
}

// TestChange: at the tick at which a port comes to forward, and for 4 more.
func TestChange(t *testing.T) {
	for since := range 4 {
		changes(t, up(t, 5, 1, since), since, since+8, since+12, since+60)
	}
}

// TestChangeAtTheTickAtWhichItIsAsked: what came to forward between two ticks is seen at the second one.
func TestChangeAtTheTickAtWhichItIsAsked(t *testing.T) {
	changes(t, up(t, 5, 1, 0), 20, 20, 24, 60)
	changes(t, up(t, 5, 1, 0), 21, 21, 25, 60)
	b := up(t, 5, 1, 0)
	says(t, b, 8, saidOf(5, true, 0)...)
	says(t, b, 12, saidOf(5, true, 0)...)
	says(t, b, 12, saidOf(5, true, 0)...)
	says(t, b, 14, saidOf(5, false, 0)...)
}

// TestChangeWhereAPortForwardsNoMore: this changes something too; at all ports it is said.
func TestChangeWhereAPortForwardsNoMore(t *testing.T) {
	for _, at := range []int{30, 31} {
		b := up(t, 5, 2, 0)
		for now := range at {
			b.Tick(now)
		}
		sets(t, b, 1, false, 10, at, api.OK)
		changes(t, b, at, at, at+4, at+50)
		sets(t, b, 1, true, 10, at+50, api.OK)
		for now := at + 50; now <= at+80; now++ {
			if now%2 == 0 {
				says(t, b, now, saidOf(5, at+58 <= now && now <= at+62, 0, 1)...)
			} else {
				says(t, b, now)
			}
		}
	}
}

// TestNoChangeOfWhatDidNotForward: a port that loses its role ahead changes nothing; nor does one that was down and up again between two ticks, and forwards.
func TestNoChangeOfWhatDidNotForward(t *testing.T) {
	b := up(t, 5, 2, 0)
	for now := range 7 {
		b.Tick(now)
	}
	sets(t, b, 1, false, 10, 7, api.OK)
	changes(t, b, 7, 8, 12, 20)
	sets(t, b, 0, false, 10, 21, api.OK)
	sets(t, b, 0, true, 10, 21, api.OK)
	changes(t, b, 30, 99, 99, 50)
}

// TestAllPortsAreAsked: ports that come to forward at one tick are one change.
func TestAllPortsAreAsked(t *testing.T) {
	b := up(t, 5, 6, 1)
	for now := 1; now <= 40; now++ {
		if now%2 == 0 {
			says(t, b, now, saidOf(5, 9 <= now && now <= 13, 0, 1, 2, 3, 4, 5)...)
		} else {
			says(t, b, now)
		}
	}
}

// TestChangeAnew: another change is told as long as the first one, from its own tick on.
func TestChangeAnew(t *testing.T) {
	b := New(5, 2)
	sets(t, b, 0, true, 10, 0, api.OK)
	sets(t, b, 1, true, 10, 3, api.OK)
	for now := range 40 {
		for _, s := range b.Tick(now) {
			if want := 8 <= now && now <= 15; s.Bpdu.Change != want {
				t.Fatalf("at %d: %+v", now, s)
			}
		}
	}
}

// TestChangeThatIsHeard is not handed on.
func TestChangeThatIsHeard(t *testing.T) {
	b := up(t, 5, 2, 0)
	m := told(v(1, 0, 1, 0), 0)
	m.Change = true
	for now := range 60 {
		hears(t, b, 0, m, now, api.OK)
		for _, s := range b.Tick(now) {
			if want := 8 <= now && now <= 12; s.Bpdu.Change != want {
				t.Fatalf("at %d: %+v", now, s)
			}
		}
	}
}

// TestStatesByRole: a port that gets another role comes to forward from the beginning.
func TestStatesByRole(t *testing.T) {
	b := up(t, 5, 2, 0)
	states(t, b, 3, api.Discarding, api.Discarding)
	states(t, b, 4, api.Learning, api.Learning)
	states(t, b, 7, api.Learning, api.Learning)
	states(t, b, 8, api.Forwarding, api.Forwarding)
	hears(t, b, 1, told(v(1, 0, 1, 0), 0), 10, api.OK)
	states(t, b, 10, api.Forwarding, api.Discarding)
	states(t, b, 17, api.Forwarding, api.Learning)
	states(t, b, 18, api.Forwarding, api.Forwarding)
	hears(t, b, 0, told(v(1, 0, 1, 1), 0), 20, api.OK)
	states(t, b, 99, api.Discarding, api.Forwarding)
	b.Tick(25) // what was heard at 10 is forgotten
	holds(t, b, v(1, 10, 1, 1), 0, api.RoleRoot, api.RoleDesignated)
	states(t, b, 32, api.Learning, api.Learning)
	states(t, b, 33, api.Forwarding, api.Forwarding)
}

func TestAnswersAreNewMemory(t *testing.T) {
	b := up(t, 5, 3, 0)
	first := b.Tick(0)
	for i := range first {
		first[i] = Said{Port: 9}
	}
	_ = append(first[:1], Said{}, Said{})
	second := b.Tick(0)
	if !slices.Equal(second, saidOf(5, false, 0, 1, 2)) {
		t.Errorf("%+v", second)
	}
	b.Tick(2)
	if !slices.Equal(second, saidOf(5, false, 0, 1, 2)) {
		t.Errorf("%+v", second)
	}
}

func TestTwoBridgesKnowNothingOfOneAnother(t *testing.T) {
	a, b := up(t, 5, 2, 0), up(t, 5, 2, 0)
	hears(t, a, 0, told(v(1, 0, 1, 0), 0), 1, api.OK)
	sets(t, a, 1, false, 1, 1, api.OK)
	holds(t, b, v(5, 0, 5, 0), -1, api.RoleDesignated, api.RoleDesignated)
	a.Tick(99)
	says(t, b, 2, saidOf(5, false, 0, 1)...)
}

// TestFarTicks: it goes on so up to the greatest tick that there is.
func TestFarTicks(t *testing.T) {
	const end = math.MaxInt
	b := New(5, 2)
	says(t, b, end-41)
	sets(t, b, 0, true, 10, end-40, api.OK)
	changes(t, b, end-40, end-32, end-28, end-21)
	sets(t, b, 1, true, 10, end-20, api.OK)
	hears(t, b, 1, told(v(1, 0, 1, 0), 0), end-15, api.OK)
	for now := end - 15; now < end; now++ {
		b.Tick(now)
		holds(t, b, v(1, 10, 1, 0), 1, api.RoleDesignated, api.RoleRoot)
	}
	states(t, b, end, api.Forwarding, api.Forwarding)
	b.Tick(end)
	holds(t, b, v(5, 0, 5, 0), -1, api.RoleDesignated, api.RoleDesignated)

	late := up(t, 5, 1, end-11)
	says(t, late, end-2)
	says(t, late, end-1, saidOf(5, true, 0)...)
	never := up(t, 5, 1, end-3)
	says(t, never, end-1, saidOf(5, false, 0)...)
}

// TestTicksThatGoBack: nothing is promised of them but that the calls end.
func TestTicksThatGoBack(t *testing.T) {
	r := rand.New(rand.NewSource(3))
	ticks := append([]int{-1, 0, 1, 2, 14, 15, 1 << 20}, far...)
	for range 2000 {
		b := New(5, 1+r.Intn(6))
		for range 40 {
			i, now := r.Intn(8)-1, ticks[r.Intn(len(ticks))]
			b.Set(i, r.Intn(4) > 0, 1+r.Intn(9), now)
			b.Hear(i, told(v(1+r.Intn(9), r.Intn(9), 1+r.Intn(9), r.Intn(6)), r.Intn(11)), now)
			b.Tick(now)
			b.State(i, ticks[r.Intn(len(ticks))])
		}
	}
}

func TestBound(t *testing.T) {
	for bridges, want := range []int{305, 332, 359, 386, 413, 440, 467, 494, 521, 548} {
		if got := Bound(bridges); got != want {
			t.Errorf("Bound(%d): %d", bridges, got)
		}
	}
	for _, bridges := range []int{-1, -2, -8, -1 << 32, math.MinInt, math.MinInt + 1} {
		if got := Bound(bridges); got != 305 {
			t.Errorf("Bound(%d): %d", bridges, got)
		}
	}
	for _, bridges := range []int{1 << 20, 1 << 40, 1 << 58, 1 << 60, math.MaxInt - 11, math.MaxInt} {
		want := 27*bridges + 27*11 + 8 // it goes round
		if got := Bound(bridges); got != want {
			t.Errorf("Bound(%d): %d", bridges, got)
		}
	}
}
