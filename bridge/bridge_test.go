package bridge

import (
	"math"
	"slices"
	"strings"
	"testing"

	"kissgate/addr"
	"kissgate/api"
	"kissgate/bpdu"
	"kissgate/cost"
	"kissgate/mrpdu"
	"kissgate/party"
)

const (
	own     = 0x20 // the address of the bridges that are tried
	settled = 12   // a tick by which all ports of a bridge forward that are up since 0, at which it says something
)

// noPorts and noVids are numbers that aren't what their names say (of three ports).
var (
	noPorts = []int{math.MinInt, -1 << 32, -3, -1, 3, 4, 6, 256, 1 << 32, 1<<32 + 1, math.MaxInt}
	noVids  = []int{math.MinInt, -1 << 32, -7, -1, 0, 4095, 4096, 1<<32 + 7, math.MaxInt}
)

// small answers a bridge with so many ports, all of them up since 0.
func small(t *testing.T, ports int, draws ...int) *Bridge {
	t.Helper()
	b := New(8, own, ports, draws...)
	for i := range ports {
		is(t, "Link", b.Link(i, true, 1000, 0), api.OK)
	}
	return b
}

// open answers such a bridge at the tick settled: each port forwards.
func open(t *testing.T, ports int) *Bridge {
	t.Helper()
	b := small(t, ports)
	ticks(b, 1, settled)
	for i := range ports {
		is(t, "State", b.Tree().State(i, settled), api.Forwarding)
	}
	return b
}

// ticks lets time go on, and answers what goes out meanwhile.
func ticks(b *Bridge, from, to int) []Out {
	var out []Out
	for now := from; now <= to; now++ {
		out = append(out, b.Tick(now)...)
	}
	return out
}

// is fails unless two things are the same.
func is[T comparable](t *testing.T, what string, got, want T) {
	t.Helper()
	if got != want {
		t.Errorf("%s: %v, not %v", what, got, want)
	}
}

// are fails unless two lists are the same.
func are[T comparable](t *testing.T, what string, got, want []T) {
	t.Helper()
	if !slices.Equal(got, want) {
		t.Errorf("%s: %+v, not %+v", what, got, want)
	}
}

// vid, group and serv answer attributes.
func vid(n int) api.Attr   { return api.Attr{Type: api.AttrVid, Value: n} }
func group(n int) api.Attr { return api.Attr{Type: api.AttrGroup, Value: 1<<40 + n} }
func serv(n int) api.Attr  { return api.Attr{Type: api.AttrServ, Value: n} }

// word answers a word; one of EvJoinIn is told by joins.
func word(a api.Attr, event, born int) api.Word {
	return api.Word{Attr: a, Event: event, Born: born}
}

func joins(t *testing.T, born int, attrs ...api.Attr) api.Frame {
	t.Helper()
	var words []api.Word
	for _, a := range attrs {
		words = append(words, word(a, api.EvJoinIn, born))
	}
	return attrFrame(t, 5, mrpdu.Pdu{Words: words})
}

// attrFrame answers a frame of a message about attributes, treeFrame one of a message about the tree, of such an address.
func attrFrame(t *testing.T, src int, p mrpdu.Pdu) api.Frame {
	t.Helper()
	s, e := mrpdu.Bytes(p)
	is(t, "mrpdu.Bytes", e, api.OK)
	return api.Frame{Dst: addr.Vlans, Src: src, Type: addr.TypeVlans, Data: s}
}

func treeFrame(t *testing.T, src int, m api.Bpdu) api.Frame {
	t.Helper()
	s, e := bpdu.Bytes(m)
	is(t, "bpdu.Bytes", e, api.OK)
	return api.Frame{Dst: addr.Tree, Src: src, Data: s}
}

// offer answers a message of a designated port of a bridge that leads to another one, the root.
func offer(root, costs, bridge, port int) api.Bpdu {
	return api.Bpdu{Vector: api.Vector{Root: root, Cost: costs, Bridge: bridge, Port: port}, Role: api.RoleDesignated}
}

// data answers a frame of data, tagged with a network.
func data(dst, src, vid int) api.Frame {
	return api.Frame{Dst: dst, Src: src, Tagged: true, Vid: vid, Type: addr.TypeData, Data: "hi"}
}

// comes fails unless a frame that comes in goes on just so.
func comes(t *testing.T, b *Bridge, i int, f api.Frame, now int, want ...Out) {
	t.Helper()
	if got := b.In(i, f, now); !slices.Equal(got, want) {
		t.Errorf("%+v at %d: %+v, not %+v", f, i, got, want)
	}
}

// to answers a frame as it goes out at each of some ports.
func to(f api.Frame, ports ...int) []Out {
	var out []Out
	for _, i := range ports {
		out = append(out, Out{i, f})
	}
	return out
}

// wrong fails unless a frame that comes in is wrong, and changes nothing but how often that was.
func wrong(t *testing.T, b *Bridge, i int, f api.Frame, now int) {
	t.Helper()
	was, bad := shows(b, now), b.Bad()
	comes(t, b, i, f, now)
	is(t, "Bad", b.Bad(), bad+1)
	is(t, "of what is wrong", shows(b, now), was)
}

// passed fails unless a frame that comes in is passed over.
func passed(t *testing.T, b *Bridge, i int, f api.Frame, now int) {
	t.Helper()
	was, bad := shows(b, now), b.Bad()
	comes(t, b, i, f, now)
	is(t, "Bad", b.Bad(), bad)
	is(t, "of what is passed over", shows(b, now), was)
}

// registered makes networks registered at a port.
func registered(t *testing.T, b *Bridge, i, now int, vids ...int) {
	t.Helper()
	for _, n := range vids {
		comes(t, b, i, joins(t, now, vid(n)), now)
		is(t, "Has", b.Party(i).Has(vid(n)), true)
	}
}

func TestExample(t *testing.T) {
	b := New(8, own, 1)
	is(t, "Link", b.Link(0, true, 1000, 1), api.OK)
	m := offer(bpdu.Id(8, own), 0, bpdu.Id(8, own), 0)
	are(t, "Tick", b.Tick(2), to(treeFrame(t, own, m), 0))
}

func TestNew(t *testing.T) {
	for _, c := range [][3]int{{0, 1, 1}, {15, 1, 6}, {1, 0, 2}, {8, 1<<40 - 1, 3}, {8, 0xfeffffffffff, 4}} {
		b := New(c[0], c[1], c[2], 1, 2)
		if b == nil {
			t.Fatalf("%v: nil", c)
		}
		is(t, "Id", b.Tree().Id(), c[0]<<48+c[1])
		is(t, "Ports", b.Tree().Ports(), c[2])
		is(t, "Bad", b.Bad(), 0)
		is(t, "Table", len(b.Table().All()), 0)
		for i := range c[2] {
			is(t, "Up", b.Up(i), false)
			is(t, "Vids", len(b.Vids(i)), 0)
			is(t, "Attrs", len(b.Party(i).Attrs()), 0)
		}
	}
}

func TestNewOfNone(t *testing.T) {
	cases := [][3]int{{0, 0, 1}, {8, own, 0}, {8, own, 7}, {8, own, -1}, {8, own, math.MaxInt}, {8, own, math.MinInt}, {8, own, 1<<32 + 1}}
	for _, rank := range []int{-1, 16, math.MinInt, math.MaxInt, 1<<32 + 1} {
		cases = append(cases, [3]int{rank, own, 2})
	}
	for _, mac := range []int{-1, 1 << 40, addr.Tree, addr.All, 1 << 48, 1<<48 + own, math.MinInt, math.MaxInt} {
		cases = append(cases, [3]int{8, mac, 2})
	}
	for _, c := range cases {
		if New(c[0], c[1], c[2]) != nil {
			t.Errorf("%v: a bridge", c)
		}
	}
}

// TestParty: each port has a part of its own, and the same one at each call.
func TestParty(t *testing.T) {
	b := New(8, own, 6)
	seen := map[*party.Party]int{nil: -1}
	for i := range 6 {
		p := b.Party(i)
		if j, twice := seen[p]; twice {
			t.Errorf("the port %d has the part of %d", i, j)
		}
		seen[p] = i
		is(t, "again", b.Party(i) == p, true)
	}
	is(t, "Tree", b.Tree() == b.Tree() && b.Tree() != nil, true)
	is(t, "Table", b.Table() == b.Table() && b.Table() != nil, true)
}

// TestNoPort: of a port that there isn't nothing is told, and nothing comes of it.
func TestNoPort(t *testing.T) {
	b := open(t, 3)
	registered(t, b, 0, settled, 7)
	was := shows(b, settled)
	for _, i := range noPorts {
		is(t, "Link", b.Link(i, true, 1, settled), api.ErrArg)
		is(t, "Access", b.Access(i, 7, true), api.ErrArg)
		is(t, "Mode", b.Mode(i, 7, api.Fixed), api.ErrArg)
		is(t, "Fix", b.Fix(7, 9, i), api.ErrArg)
		is(t, "Party", b.Party(i) == nil, true)
		is(t, "Up", b.Up(i), false)
		is(t, "Vids", len(b.Vids(i)), 0)
		passed(t, b, i, data(addr.All, 9, 7), settled)
		passed(t, b, i, api.Frame{Dst: addr.Tree, Src: 9, Data: "no"}, settled)
	}
	is(t, "of no port", shows(b, settled), was)
}

// TestNil: of a nil bridge nothing, 0.
func TestNil(t *testing.T) {
	var b *Bridge
	for _, i := range append(noPorts, 0, 1) {
		is(t, "Link", b.Link(i, true, 1, 0), api.ErrNil)
		is(t, "Access", b.Access(i, 1, true), api.ErrNil)
		is(t, "Mode", b.Mode(i, 1, api.Fixed), api.ErrNil)
		is(t, "Mode", b.Mode(i, 0, -1), api.ErrNil)
		is(t, "Fix", b.Fix(1, 1, i), api.ErrNil)
		is(t, "Fix", b.Fix(0, 1, i), api.ErrNil)
		is(t, "Say", b.Say(i, true), api.ErrNil)
		is(t, "Say", b.Say(i, false), api.ErrNil)
		is(t, "In", len(b.In(i, data(addr.All, 9, 7), 1)), 0)
		is(t, "Tick", len(b.Tick(i)), 0)
		is(t, "Party", b.Party(i) == nil, true)
		is(t, "Up", b.Up(i), false)
		is(t, "Vids", len(b.Vids(i)), 0)
	}
	is(t, "Tree", b.Tree() == nil, true)
	is(t, "Table", b.Table() == nil, true)
	is(t, "Bad", b.Bad(), 0)
}

// TestDown: nothing goes out where all is down, whatever is to be said; nothing comes in.
func TestDown(t *testing.T) {
	b := New(8, own, 3, 2)
	is(t, "Say", b.Say(9, true), api.OK)
	is(t, "Mode", b.Mode(1, 7, api.Fixed), api.OK)
	are(t, "Tick", ticks(b, 0, 200), nil)
	passed(t, b, 0, joins(t, 200, vid(7)), 200)
	passed(t, b, 0, treeFrame(t, 9, offer(1, 0, 1, 0)), 200)
	passed(t, b, 0, data(addr.All, 9, 7), 200)
	passed(t, b, 0, api.Frame{Dst: addr.Tree + 5, Src: 9}, 200)
}

// TestLink: a port that goes down has nothing registered, and the table knows nothing that was seen there.
func TestLink(t *testing.T) {
	b := open(t, 3)
	for i := range 3 {
		registered(t, b, i, settled, 7)
		b.In(i, data(addr.All, 9+i, 7), settled)
		is(t, "Fix", b.Fix(1, 9+i, i), api.OK)
	}
	is(t, "Mode", b.Mode(1, 8, api.Fixed), api.OK)
	is(t, "Link", b.Link(1, false, 1000, settled), api.OK)
	is(t, "Up", b.Up(1), false)
	are(t, "Vids", b.Vids(1), []int{8})
	is(t, "Find", b.Table().Find(7, 10), -1)
	is(t, "Find", b.Table().Find(1, 10), 1)
	for _, i := range []int{0, 2} {
		is(t, "Up", b.Up(i), true)
		are(t, "Vids", b.Vids(i), []int{7})
		is(t, "Find", b.Table().Find(7, 9+i), i)
	}
}

// TestLinkAgain: what is up, or comes up, or is down already doesn't go down.
func TestLinkAgain(t *testing.T) {
	b := New(8, own, 2)
	for _, up := range []bool{false, true, true} {
		b.Party(0).Hear(mrpdu.Pdu{Words: []api.Word{word(vid(7), api.EvNew, 1)}}, 1)
		b.Table().Learn(7, 9, 0, 1)
		is(t, "Link", b.Link(0, up, 10, 1), api.OK)
		is(t, "Up", b.Up(0), up)
		are(t, "Vids", b.Vids(0), []int{7})
		is(t, "Find", b.Table().Find(7, 9), 0)
	}
}

// TestLinkTree: the tree knows which ports are up, since when, and by the speed what their ways cost.
func TestLinkTree(t *testing.T) {
	b := New(8, own, 2)
	for _, speed := range []float64{1000, 10, 0, -1, math.NaN(), math.Inf(1)} {
		is(t, "Link", b.Link(0, true, speed, 5), api.OK)
		is(t, "Role", b.Tree().Role(0), api.RoleDesignated)
		comes(t, b, 0, treeFrame(t, 9, offer(1, 4, 2, 3)), 5)
		is(t, "Best", b.Tree().Best(), api.Vector{Root: 1, Cost: 4 + cost.Of(speed), Bridge: 2, Port: 3})
		is(t, "Link", b.Link(0, false, speed, 5), api.OK)
		is(t, "Role", b.Tree().Role(0), api.RoleNone)
		is(t, "Root", b.Tree().Root(), -1)
	}
	b.Link(1, true, 10, 20)
	is(t, "State", b.Tree().State(1, 23), api.Discarding)
	is(t, "State", b.Tree().State(1, 24), api.Learning)
	is(t, "State", b.Tree().State(1, 28), api.Forwarding)
}

// TestAccess: at first untagged frames are of the network 1, and all that goes out is tagged.
func TestAccess(t *testing.T) {
	b := open(t, 3)
	for i := range 3 {
		registered(t, b, i, settled, 1, 5)
	}
	f := api.Frame{Dst: addr.All, Src: 9, Type: addr.TypeData, Data: "x"}
	one, five := f, f
	one.Tagged, one.Vid = true, 1
	five.Tagged, five.Vid = true, 5
	comes(t, b, 0, f, settled, to(one, 1, 2)...)
	is(t, "Access", b.Access(0, 5, false), api.OK)
	comes(t, b, 0, f, settled, to(five, 1, 2)...)
	comes(t, b, 1, f, settled, to(one, 0, 2)...)
	is(t, "Access", b.Access(2, 5, true), api.OK)
	comes(t, b, 0, f, settled, Out{1, five}, Out{2, f})
	comes(t, b, 1, f, settled, to(one, 0, 2)...)
	comes(t, b, 2, f, settled, to(five, 0, 1)...)
	is(t, "Access", b.Access(2, 4094, false), api.OK)
	is(t, "Access", b.Access(2, 5, false), api.OK)
	comes(t, b, 0, f, settled, to(five, 1, 2)...)
	for _, no := range noVids {
		is(t, "Access", b.Access(0, no, true), api.ErrArg)
	}
	comes(t, b, 2, f, settled, to(five, 0, 1)...)
}

func TestMode(t *testing.T) {
	b := open(t, 2)
	is(t, "Mode", b.Mode(0, 9, api.Fixed), api.OK)
	is(t, "Mode", b.Mode(0, 4094, api.Fixed), api.OK)
	is(t, "Mode", b.Mode(0, 1, api.Fixed), api.OK)
	are(t, "Vids", b.Vids(0), []int{1, 9, 4094})
	are(t, "Vids", b.Vids(1), nil)
	is(t, "Mode", b.Mode(0, 9, api.Forbidden), api.OK)
	is(t, "Mode", b.Mode(0, 1, api.Normal), api.OK)
	are(t, "Vids", b.Vids(0), []int{4094})
	for _, no := range noVids {
		is(t, "Mode", b.Mode(0, no, api.Fixed), api.ErrArg)
		is(t, "Mode", b.Mode(0, 1, max(no, 3)), api.ErrArg)
	}
	is(t, "Mode", b.Mode(0, 1, -1), api.ErrArg)
	for n := range 14 {
		is(t, "Mode", b.Mode(0, 100+n, api.Fixed), api.OK)
	}
	is(t, "Mode", b.Mode(0, 99, api.Fixed), api.ErrFull)
	is(t, "Mode", b.Mode(0, 100, api.Normal), api.OK)
	is(t, "Mode", b.Mode(0, 99, api.Fixed), api.OK)
}

// TestSay: up to 16 networks are said by the bridge itself; what it says already it may say.
func TestSay(t *testing.T) {
	b := open(t, 2)
	for n := range 16 {
		is(t, "Say", b.Say(4094-n, true), api.OK)
		is(t, "Say", b.Say(4094-n, true), api.OK)
	}
	is(t, "Say", b.Say(7, true), api.ErrFull)
	is(t, "Say", b.Say(7, false), api.OK)
	is(t, "Say", b.Say(4080, true), api.OK)
	is(t, "Say", b.Say(4080, false), api.OK)
	is(t, "Say", b.Say(7, true), api.OK)
	is(t, "Say", b.Say(4080, true), api.ErrFull)
	for _, no := range noVids {
		is(t, "Say", b.Say(no, true), api.ErrArg)
		is(t, "Say", b.Say(no, false), api.ErrArg)
	}
	b.Tick(13)
	for i := range 2 {
		is(t, "Says", b.Party(i).Says(vid(7)), true)
		is(t, "Says", b.Party(i).Says(vid(4080)), false)
		is(t, "Attrs", len(b.Party(i).Attrs()), 16)
	}
}

// TestSaid: what the bridge says itself is said at each port that forwards, as of now, till it says it no more; nobody has it registered by that.
func TestSaid(t *testing.T) {
	b := open(t, 3)
	b.Link(2, false, 1, settled)
	b.Link(2, true, 1000, settled)
	is(t, "Say", b.Say(9, true), api.OK)
	says := func(now int, want ...api.Word) {
		t.Helper()
		var out []Out
		if len(want) > 0 {
			out = to(attrFrame(t, own, mrpdu.Pdu{Words: want}), 0, 1)
		}
		are(t, "attributes", attrsOut(b.Tick(now)), out)
	}
	says(13)
	says(14, word(vid(9), api.EvNew, 14))
	says(15)
	says(16, word(vid(9), api.EvJoinIn, 16))
	says(17)
	is(t, "Say", b.Say(9, false), api.OK)
	says(18, word(vid(9), api.EvLv, 17))
	says(19)
	are(t, "Vids", b.Vids(0), nil)
	is(t, "Attrs", len(b.Party(0).Attrs()), 0)
}

// attrsOut answers what of all that goes out is about attributes.
func attrsOut(out []Out) []Out {
	return slices.DeleteFunc(slices.Clone(out), func(o Out) bool { return o.Frame.Dst != addr.Vlans })
}

// treeOut answers what of all that goes out is about the tree.
func treeOut(out []Out) []Out {
	return slices.DeleteFunc(slices.Clone(out), func(o Out) bool { return o.Frame.Dst != addr.Tree })
}

func TestFix(t *testing.T) {
	b := open(t, 3)
	registered(t, b, 1, settled, 7)
	registered(t, b, 2, settled, 7)
	is(t, "Fix", b.Fix(7, 9, 2), api.OK)
	comes(t, b, 0, data(9, 8, 7), settled, to(data(9, 8, 7), 2)...)
	is(t, "Fix", b.Fix(7, 9, 0), api.OK)
	comes(t, b, 0, data(9, 8, 7), settled)
	for _, no := range noVids {
		is(t, "Fix", b.Fix(no, 9, 0), api.ErrArg)
	}
	for _, no := range []int{-1, 1 << 40, addr.All, 1 << 48} {
		is(t, "Fix", b.Fix(7, no, 0), api.ErrArg)
	}
	for n := range 23 {
		is(t, "Fix", b.Fix(8, n, 0), api.OK)
	}
	is(t, "Fix", b.Fix(8, 23, 0), api.ErrFull)
}

// TestTurned: a port's draws are the bridge's, of which as many as its number, or all, come last.
func TestTurned(t *testing.T) {
	draws := []int{10, 20, 30}
	b := small(t, 6, draws...)
	clear(draws)
	asked := make([][]int, 6)
	for now := 1; now < 400; now++ {
		for _, o := range attrsOut(b.Tick(now)) {
			is(t, "asks", o.Frame, attrFrame(t, own, mrpdu.Pdu{All: []int{api.AttrVid}}))
			asked[o.Port] = append(asked[o.Port], now)
		}
	}
	are(t, "0", asked[0], []int{70, 150, 240, 310, 390})
	are(t, "1", asked[1], []int{80, 170, 240, 320})
	are(t, "2", asked[2], []int{90, 160, 240, 330})
	for i := 3; i < 6; i++ {
		are(t, "beyond all", asked[i], asked[0])
	}
}

// TestTreeSaid: at each even tick what is offered goes out at each port that is up, of the bridge's address.
func TestTreeSaid(t *testing.T) {
	b := New(8, own, 4)
	for _, i := range []int{0, 2, 3} {
		b.Link(i, true, 1000, 0)
	}
	id := bpdu.Id(8, own)
	for now := 1; now < 30; now++ {
		var want []Out
		for _, i := range []int{0, 2, 3} {
			m := offer(id, 0, id, i)
			m.Change = 8 <= now && now <= 12
			if now%2 == 0 {
				want = append(want, Out{i, treeFrame(t, own, m)})
			}
		}
		are(t, "Tick", b.Tick(now), want)
	}
}

// TestTreeHeard: a message from a better bridge is heard, tagged or not; it goes nowhere, and isn't said back.
func TestTreeHeard(t *testing.T) {
	b := open(t, 3)
	id := bpdu.Id(8, own)
	m := offer(1, 7, 2, 3)
	m.Age = 9
	f := treeFrame(t, 9, m)
	comes(t, b, 1, f, 13)
	is(t, "Best", b.Tree().Best(), api.Vector{Root: 1, Cost: 7 + cost.Of(1000), Bridge: 2, Port: 3})
	is(t, "Root", b.Tree().Root(), 1)
	is(t, "Find", b.Table().Find(1, 9), -1)
	want := offer(1, 7+cost.Of(1000), id, 0)
	want.Age = 10
	b.Tick(13)
	out := treeOut(b.Tick(14))
	is(t, "how many", len(out), 2)
	for k, i := range []int{0, 2} {
		want.Vector.Port = i
		want.Change = true // the port 1 forwards no more
		is(t, "what is said", out[k], Out{i, treeFrame(t, own, want)})
	}
	f = treeFrame(t, 9, offer(1, 6, 2, 3))
	f.Tagged, f.Vid, f.Prio = true, 7, 3
	comes(t, b, 2, f, 14)
	is(t, "Root", b.Tree().Root(), 2)
	is(t, "Bad", b.Bad(), 0)
}

// TestTreeTooFar: a message that costs more than can be doesn't go out; what is about attributes does.
func TestTreeTooFar(t *testing.T) {
	b := open(t, 2)
	comes(t, b, 0, treeFrame(t, 9, offer(1, 1<<31-1-cost.Of(1000), 2, 3)), 13)
	is(t, "just near enough", len(treeOut(b.Tick(14))), 1)
	comes(t, b, 0, treeFrame(t, 9, offer(1, 1<<31-cost.Of(1000), 2, 3)), 15)
	is(t, "Root", b.Tree().Root(), 0)
	is(t, "Say", b.Say(9, true), api.OK)
	out := b.Tick(16)
	is(t, "too far", len(treeOut(out)), 0)
	is(t, "attributes", len(attrsOut(out)), 1)
}

// TestChange: if something changed, all that was seen is forgotten, at each port; not what somebody said.
func TestChange(t *testing.T) {
	b := open(t, 3)
	for i := range 3 {
		comes(t, b, i, data(addr.All, 9+i, 7), settled)
		is(t, "Find", b.Table().Find(7, 9+i), i)
	}
	b.Fix(7, 20, 1)
	m := offer(1, 7, 2, 3)
	comes(t, b, 1, treeFrame(t, 9, m), settled)
	is(t, "all", len(b.Table().All()), 4)
	m.Change = true
	m.Role = api.RoleRoot
	wrong(t, b, 1, treeFrame(t, 9, m), settled)
	is(t, "all", len(b.Table().All()), 4)
	m.Role = api.RoleDesignated
	comes(t, b, 1, treeFrame(t, 9, m), settled)
	is(t, "all", len(b.Table().All()), 1)
	is(t, "Find", b.Table().Find(7, 20), 1)
	is(t, "Bad", b.Bad(), 1)
}

// TestTreeWrong: what is no message about the tree, or isn't taken, is wrong.
func TestTreeWrong(t *testing.T) {
	b := open(t, 2)
	registered(t, b, 1, settled, 7)
	b.In(0, data(addr.All, 9, 7), settled)
	good := treeFrame(t, 9, offer(1, 7, 2, 3))
	for _, s := range []string{"", "no", good.Data[1:], good.Data + "\x00", strings.Repeat("\x00", 36)} {
		wrong(t, b, 0, api.Frame{Dst: addr.Tree, Src: 9, Data: s}, settled)
	}
	for _, role := range []int{api.RoleNone, api.RoleRoot, api.RoleAlternate} {
		m := offer(1, 7, 2, 3)
		m.Role, m.Change = role, true
		wrong(t, b, 0, treeFrame(t, 9, m), settled)
	}
	for _, kind := range []int{addr.TypeData, addr.TypeVlans, 1536, 65535} {
		f := good
		f.Type = kind
		wrong(t, b, 0, f, settled)
	}
	is(t, "Set", b.Tree().Set(0, false, 1, settled), api.OK)
	wrong(t, b, 0, good, settled)
	comes(t, b, 1, good, settled)
	is(t, "Root", b.Tree().Root(), 1)
}

// TestAttrsHeard: at either address what is said of all kinds of attributes is heard, at that port alone, whether it forwards or not.
func TestAttrsHeard(t *testing.T) {
	b := New(8, own, 2)
	b.Link(0, true, 10, 4)
	b.Link(1, true, 10, 4)
	f := joins(t, 3, vid(7), vid(9), group(1), serv(0))
	comes(t, b, 1, f, 4)
	are(t, "Attrs", b.Party(1).Attrs(), []api.Attr{vid(7), vid(9), group(1), serv(0)})
	are(t, "Attrs", b.Party(0).Attrs(), nil)
	are(t, "Vids", b.Vids(1), []int{7, 9})
	is(t, "Born", b.Party(1).Born(group(1), 5), 3)
	g := joins(t, 4, vid(8), serv(1))
	g.Dst, g.Type = addr.Group, addr.TypeGroup
	comes(t, b, 0, g, 4)
	are(t, "Attrs", b.Party(0).Attrs(), []api.Attr{vid(8), serv(1)})
	f = attrFrame(t, 9, mrpdu.Pdu{All: []int{api.AttrVid}})
	f.Tagged, f.Vid = true, 3
	comes(t, b, 1, f, 5)
	for now := 5; now < 29; now++ {
		b.Tick(now)
		are(t, "Vids", b.Vids(1), []int{7, 9})
	}
	b.Tick(29) // Leave ticks behind 5
	are(t, "Vids", b.Vids(1), nil)
	is(t, "Bad", b.Bad(), 0)
	is(t, "Find", len(b.Table().All()), 0)
}

// TestAttrsWrong: what is no message is wrong; of one in which something is wrong that is heard which stands ahead.
func TestAttrsWrong(t *testing.T) {
	b := open(t, 2)
	for _, s := range []string{"", "no", "\x01\x00\x00", "\x00", "\x00\x00", "\x00\x00\x00\x00", "\x00\x04\x02", "\x00\x01\x02\x00\x00\x00\x00"} {
		wrong(t, b, 0, api.Frame{Dst: addr.Vlans, Src: 9, Type: addr.TypeVlans, Data: s}, settled)
		wrong(t, b, 0, api.Frame{Dst: addr.Group, Src: 9, Type: addr.TypeGroup, Data: s}, settled)
	}
	for _, c := range [][2]int{{addr.Vlans, addr.TypeGroup}, {addr.Group, addr.TypeVlans}, {addr.Vlans, 0}, {addr.Tree, addr.TypeVlans}} {
		wrong(t, b, 0, api.Frame{Dst: c[0], Src: 9, Type: c[1], Data: joins(t, 3, vid(8)).Data}, settled)
	}
	f := joins(t, 3, vid(7), serv(1))
	f.Data = f.Data[:len(f.Data)-2] + "\x02\x06\x00\x00"
	comes(t, b, 0, f, settled)
	is(t, "Bad", b.Bad(), 21)
	are(t, "Attrs", b.Party(0).Attrs(), []api.Attr{vid(7), serv(1)})
	comes(t, b, 0, api.Frame{Dst: addr.Vlans, Src: 9, Type: addr.TypeVlans, Data: "\x00\x00\x00"}, settled)
	is(t, "Bad", b.Bad(), 21)
}

// TestKept: to other addresses that are kept, or of other types, it is wrong; it goes nowhere, and isn't learned from.
func TestKept(t *testing.T) {
	b := open(t, 3)
	registered(t, b, 1, settled, 7)
	registered(t, b, 2, settled, 7)
	types := []int{0, addr.TypeData, addr.TypeVlans, addr.TypeGroup, 1536, 65535}
	for dst := addr.Tree; dst <= addr.Tree+15; dst++ {
		for _, kind := range types {
			f := data(dst, 9, 7)
			f.Type = kind
			if dst != addr.Tree || kind != 0 {
				wrong(t, b, 0, f, settled)
			}
		}
	}
	for _, kind := range types {
		f := data(addr.Vlans, 9, 7)
		f.Type = kind
		f.Data = joins(t, 9, vid(8)).Data
		if kind != addr.TypeVlans {
			wrong(t, b, 0, f, settled)
		}
		f.Dst = addr.Group
		if kind != addr.TypeGroup {
			wrong(t, b, 0, f, settled)
		}
	}
	bad := b.Bad()
	for _, dst := range []int{addr.Tree - 1, addr.Tree + 16, addr.Group - 1, addr.Vlans + 1, addr.All, 0, 9} {
		comes(t, b, 0, data(dst, 8, 7), settled, to(data(dst, 8, 7), 1, 2)...)
	}
	is(t, "Bad", b.Bad(), bad)
	is(t, "Find", b.Table().Find(7, 8), 0)
}

// cannotBe answers frames that can't be.
func cannotBe(t *testing.T) []api.Frame {
	var list []api.Frame
	for _, f := range []api.Frame{treeFrame(t, 9, offer(1, 7, 2, 3)), joins(t, 3, vid(9)), data(addr.All, 9, 7), data(addr.Tree+5, 9, 7)} {
		for _, src := range []int{-1, 1 << 40, 1 << 48, 1<<48 + 9} {
			g := f
			g.Src = src
			list = append(list, g)
		}
		g := f
		g.Prio = 8
		list = append(list, g)
		g = f
		g.Data = strings.Repeat("x", 401)
		list = append(list, g)
	}
	f := data(addr.All, 9, 7)
	for _, kind := range []int{-1, 1, 1535, addr.TypeTag, 65536} {
		f.Type = kind
		list = append(list, f)
	}
	f = data(1<<48, 9, 7)
	return append(list, f, data(-1, 9, 7), data(addr.All, 9, 4095))
}

// TestCannotBe: a frame that can't be is passed over.
func TestCannotBe(t *testing.T) {
	b := open(t, 2)
	registered(t, b, 1, settled, 7)
	for _, f := range cannotBe(t) {
		passed(t, b, 0, f, settled)
	}
}

// TestLearns: while it learns, and where it forwards, in the network of the frame.
func TestLearns(t *testing.T) {
	b := small(t, 2)
	registered(t, b, 0, 0, 7)
	registered(t, b, 1, 0, 7)
	b.Access(0, 3, false)
	plain := api.Frame{Dst: addr.All, Src: 9, Type: addr.TypeData}
	b.Tick(3)
	passed(t, b, 0, plain, 3)
	comes(t, b, 0, plain, 4)
	is(t, "Find", b.Table().Find(3, 9), 0)
	comes(t, b, 0, data(addr.All, 9, 7), 7)
	is(t, "Find", b.Table().Find(7, 9), 0)
	comes(t, b, 1, data(9, 8, 7), 7)
	comes(t, b, 1, data(9, 8, 7), 8, to(data(9, 8, 7), 0)...)
	is(t, "Find", b.Table().Find(7, 8), 1)
	comes(t, b, 0, data(7, 8, 7), 9, to(data(7, 8, 7), 1)...)
	is(t, "Find", b.Table().Find(7, 8), 0)
	b.Tick(69)
	is(t, "Find", b.Table().Find(7, 8), 0)
	b.Tick(70)
	is(t, "Find", b.Table().Find(7, 8), -1)
}

// TestLearnsFirst: it is learned from ahead of its going on: what goes to its own sender goes nowhere.
func TestLearnsFirst(t *testing.T) {
	b := open(t, 2)
	registered(t, b, 1, settled, 7)
	comes(t, b, 0, data(9, 8, 7), settled, to(data(9, 8, 7), 1)...)
	comes(t, b, 0, data(9, 9, 7), settled)
}

// TestGoesOn: to ports that forward, and have the network registered; the rest of the attributes plays no part.
func TestGoesOn(t *testing.T) {
	b := open(t, 4)
	f := data(addr.All, 9, 1)
	comes(t, b, 0, f, settled)
	comes(t, b, 1, joins(t, 3, vid(2), group(7), serv(1)), settled)
	comes(t, b, 0, f, settled)
	registered(t, b, 1, settled, 1)
	registered(t, b, 3, settled, 1)
	comes(t, b, 0, f, settled, to(f, 1, 3)...)
	comes(t, b, 3, f, settled, to(f, 1)...)
	b.Link(1, false, 1, settled)
	b.Link(1, true, 1, settled)
	registered(t, b, 1, settled, 1)
	comes(t, b, 0, f, settled, to(f, 3)...)
	comes(t, b, 1, f, settled)
}

// TestOtherHand: the tree is handed out: a port that it holds up, by another's hand, while it is down, sends nothing all the same.
func TestOtherHand(t *testing.T) {
	b := open(t, 2)
	b.Link(1, false, 1, settled)
	b.Tree().Set(1, true, 10, settled)
	b.Mode(1, 7, api.Fixed)
	b.Say(9, true)
	for now := settled + 1; now < 150; now++ {
		for _, o := range append(b.Tick(now), b.In(0, data(addr.All, 9, 7), now)...) {
			is(t, "Port", o.Port, 0)
		}
	}
	is(t, "State", b.Tree().State(1, 150), api.Forwarding)
}

// TestApart: two bridges know nothing of one another.
func TestApart(t *testing.T) {
	a, b := open(t, 2), open(t, 2)
	was := shows(b, settled)
	a.Say(9, true)
	a.Fix(7, 9, 1)
	a.Mode(0, 7, api.Fixed)
	a.Access(0, 5, true)
	registered(t, a, 1, settled, 5)
	a.In(0, api.Frame{Dst: addr.Tree, Src: 9}, settled)
	a.Link(0, false, 1, settled)
	is(t, "the other", shows(b, settled), was)
}

// TestFarTicks: every call ends, at all ticks.
func TestFarTicks(t *testing.T) {
	for _, now := range []int{math.MinInt, -1 << 40, -1, api.MaxTicks, api.MaxTicks + 1, 1 << 40, math.MaxInt} {
		b := open(t, 2)
		b.Say(9, true)
		b.Mode(1, 7, api.Fixed)
		b.In(0, joins(t, 5, vid(8)), now)
		b.In(1, treeFrame(t, 9, offer(1, 7, 2, 3)), now)
		b.In(0, data(addr.All, 9, 7), now)
		b.Link(0, false, 1, now)
		b.Link(0, true, 1, now)
		for range 9 {
			b.Tick(now)
		}
	}
}
