package relay

import (
	"math"
	"slices"
	"strings"
	"testing"

	"kissgate/addr"
	"kissgate/api"
	"kissgate/fdb"
)

// noVids, noPorts, noStates are numbers that aren't what their names say (of three ports), vids some that are networks, the outermost ones among them.
var (
	noVids   = []int{math.MinInt, -1 << 32, -4094, -1, 0, 4095, 4096, 4097, 65536, 1<<32 + 1, 1 << 62, math.MaxInt}
	noPorts  = []int{math.MinInt, -1 << 32, -3, -2, -1, 3, 4, 255, 256, 1 << 32, 1<<32 + 1, math.MaxInt}
	noStates = []int{math.MinInt, -2, -1, 3, 4, 258, 1<<32 + 1, 1<<32 + 2, math.MaxInt}
	vids     = []int{1, 2, 7, 255, 256, 4093, 4094}
)

// kept are addresses to which bridges hand nothing on, many others of many, ones those of one.
var (
	kept = []int{0x0180c2000000, 0x0180c2000001, 0x0180c200000e, 0x0180c200000f, 0x0180c2000020, 0x0180c2000021}
	many = []int{1 << 40, 0x0180c1ffffff, 0x0180c2000010, 0x0180c200001f, 0x0180c2000022, 0x030000000000, 0xfffffffffffe, addr.All}
	ones = []int{0, 1, 9, 1<<40 - 1, 1 << 41, 0x0080c2000000, 0x0280c2000021, 0xfeffffffffff}
)

// toAll answers a frame to all with such a tag, plain one without a tag.
func toAll(vid, prio int) api.Frame {
	return api.Frame{Dst: addr.All, Src: 7, Tagged: true, Vid: vid, Prio: prio, Type: addr.TypeData, Data: "hi"}
}

func plain() api.Frame {
	return api.Frame{Dst: addr.All, Src: 7, Type: addr.TypeData, Data: "hi"}
}

// to answers a frame with another address that it goes to, of one that it is from.
func to(f api.Frame, dst int) api.Frame {
	f.Dst = dst
	return f
}

func of(f api.Frame, src int) api.Frame {
	f.Src = src
	return f
}

// open answers a port that forwards, and is a member of such networks.
func open(pvid int, members ...int) Port {
	return Port{State: api.Forwarding, Pvid: pvid, Members: members}
}

// three answers three ports that forward, and are members of such networks.
func three(members ...int) []Port {
	return []Port{open(1, members...), open(1, members...), open(1, members...)}
}

// leaves fails unless a frame leaves just so.
func leaves(t *testing.T, ports []Port, in int, f api.Frame, x *fdb.Table, want ...Sent) {
	t.Helper()
	if got := Relay(ports, in, f, x); !slices.Equal(got, want) {
		t.Errorf("%+v at %d of %+v: %+v, not %+v", f, in, ports, got, want)
	}
}

// leavesAt fails unless a frame leaves just these ports, as it came.
func leavesAt(t *testing.T, ports []Port, in int, f api.Frame, x *fdb.Table, at ...int) {
	t.Helper()
	var want []Sent
	for _, i := range at {
		want = append(want, Sent{i, f})
	}
	leaves(t, ports, in, f, x, want...)
}

// learns fails unless Learns answers so, belongs unless Class does.
func learns(t *testing.T, ports []Port, in int, f api.Frame, want bool) {
	t.Helper()
	if got := Learns(ports, in, f); got != want {
		t.Errorf("%+v at %d of %+v: %t, not %t", f, in, ports, got, want)
	}
}

func belongs(t *testing.T, p Port, f api.Frame, want int) {
	t.Helper()
	if got := Class(p, f); got != want {
		t.Errorf("%+v at %+v: %d, not %d", f, p, got, want)
	}
}

// knows answers a table that knows a place.
func knows(t *testing.T, vid, mac, port int) *fdb.Table {
	t.Helper()
	x := fdb.New()
	if e := x.Learn(vid, mac, port, 1); e != api.OK {
		t.Fatalf("Learn(%d, %#x, %d): %d", vid, mac, port, e)
	}
	return x
}

func TestExample(t *testing.T) {
	leavesAt(t, three(4), 0, toAll(4, 0), fdb.New(), 1, 2)
	leavesAt(t, three(4), 1, toAll(4, 0), fdb.New(), 0, 2)
	leavesAt(t, three(4), 2, toAll(4, 0), fdb.New(), 0, 1)
}

// TestClass: to the network of its tag, whatever the port's is; to the port's without a tag, or with the tag 0.
func TestClass(t *testing.T) {
	for _, vid := range vids {
		for _, pvid := range slices.Concat(vids, noVids) {
			belongs(t, Port{Pvid: pvid}, toAll(vid, 3), vid)
		}
		belongs(t, Port{Pvid: vid}, plain(), vid)
		belongs(t, Port{Pvid: vid}, toAll(0, 3), vid)
	}
}

func TestClassOfNone(t *testing.T) {
	for _, no := range noVids {
		belongs(t, Port{Pvid: no}, plain(), 0)
		belongs(t, Port{Pvid: no}, toAll(0, 0), 0)
		if no != 0 {
			belongs(t, Port{Pvid: 5}, toAll(no, 0), 0)
		}
	}
	belongs(t, Port{}, api.Frame{}, 0)
}

// TestClassAlone: neither the port's other sides nor the frame's play a part, and a number isn't a tag's where there is none.
func TestClassAlone(t *testing.T) {
	for _, state := range append(noStates, 0, 1, 2) {
		belongs(t, Port{State: state, Pvid: 5, Strip: true, Members: []int{6}}, plain(), 5)
		belongs(t, Port{State: state, Pvid: 5, Strip: true}, toAll(6, 0), 6)
	}
	for _, f := range append(wrongs(), to(plain(), addr.Tree)) {
		f.Tagged = false
		belongs(t, Port{Pvid: 5}, f, 5)
		f.Tagged, f.Vid = true, 6
		belongs(t, Port{Pvid: 5}, f, 6)
	}
}

// wrongs answers frames that can't be, none of them for its network's sake.
func wrongs() []api.Frame {
	list := []api.Frame{toAll(4, -1), toAll(4, 8), toAll(4, math.MinInt), toAll(4, 1<<32)}
	for _, n := range []int{math.MinInt, -1, 1 << 48, 1<<48 + 9, math.MaxInt} {
		list = append(list, to(toAll(4, 0), n), of(toAll(4, 0), n))
	}
	for _, n := range many {
		list = append(list, of(toAll(4, 0), n))
	}
	for _, n := range []int{-1, 1, 1535, addr.TypeTag, 65536, 1<<32 + addr.TypeData} {
		f := toAll(4, 0)
		f.Type = n
		list = append(list, f)
	}
	f := toAll(4, 0)
	f.Data = strings.Repeat("x", 401)
	return append(list, f)
}

func TestLearnsByState(t *testing.T) {
	for _, state := range []int{api.Learning, api.Forwarding} {
		learns(t, []Port{{State: state, Pvid: 1}}, 0, plain(), true)
		learns(t, []Port{{State: state}}, 0, toAll(4094, 7), true)
	}
	for _, state := range append(noStates, api.Discarding) {
		learns(t, []Port{{State: state, Pvid: 1}}, 0, plain(), false)
	}
}

func TestLearnsByNetwork(t *testing.T) {
	for _, no := range noVids {
		learns(t, []Port{open(no, 5)}, 0, plain(), false)
		learns(t, []Port{open(no, 5)}, 0, toAll(0, 0), false)
		learns(t, []Port{open(no, 5)}, 0, toAll(5, 0), true)
		if no != 0 {
			learns(t, []Port{open(5, 5)}, 0, toAll(no, 0), false)
		}
	}
}

func TestLearnsByAddresses(t *testing.T) {
	ports := three(4)
	for _, one := range ones {
		learns(t, ports, 1, of(plain(), one), true)
		learns(t, ports, 1, to(plain(), one), true)
	}
	for _, n := range many {
		learns(t, ports, 1, of(plain(), n), false)
		learns(t, ports, 1, to(plain(), n), true)
	}
	for _, n := range kept {
		learns(t, ports, 1, of(plain(), n), false)
		learns(t, ports, 1, to(plain(), n), false)
	}
}

// TestLearnsOfWhatCannotBe: whether it can be isn't asked, but what is said of addresses and networks.
func TestLearnsOfWhatCannotBe(t *testing.T) {
	for _, f := range wrongs() {
		learns(t, three(4), 2, f, !addr.Many(f.Src))
	}
}

func TestPortsThatAreNot(t *testing.T) {
	for _, in := range noPorts {
		learns(t, three(1, 4), in, plain(), false)
		leaves(t, three(1, 4), in, toAll(4, 0), fdb.New())
	}
	for _, in := range append(noPorts, 0, 1) {
		learns(t, nil, in, plain(), false)
		leaves(t, nil, in, toAll(4, 0), fdb.New())
		leaves(t, []Port{}, in, toAll(4, 0), nil)
	}
}

// TestOnePort: it is learned from there, and goes nowhere.
func TestOnePort(t *testing.T) {
	one := []Port{open(1, 1)}
	learns(t, one, 0, plain(), true)
	leaves(t, one, 0, plain(), fdb.New())
	leaves(t, one, 0, to(plain(), 9), knows(t, 1, 9, 0))
}

func TestWhatComesInMustForward(t *testing.T) {
	for _, state := range append(noStates, api.Discarding, api.Learning) {
		ports := three(4)
		ports[0].State = state
		leaves(t, ports, 0, toAll(4, 0), fdb.New())
		leaves(t, ports, 0, to(toAll(4, 0), 9), knows(t, 4, 9, 1))
	}
}

// TestWhatGoesOutMustForward: whether it goes to all, or there alone.
func TestWhatGoesOutMustForward(t *testing.T) {
	for _, state := range append(noStates, api.Discarding, api.Learning) {
		ports := three(4)
		ports[1].State = state
		leavesAt(t, ports, 0, toAll(4, 0), fdb.New(), 2)
		leaves(t, ports, 0, to(toAll(4, 0), 9), knows(t, 4, 9, 1))
	}
}

func TestMembers(t *testing.T) {
	ports := []Port{open(1), open(1, 4), open(4, 3, 5), open(1, 5, 4), open(4), open(1, 3, 4, 5)}
	leavesAt(t, ports, 0, toAll(4, 6), fdb.New(), 1, 3, 5)
	leavesAt(t, ports, 5, toAll(4, 6), fdb.New(), 1, 3)
	leavesAt(t, ports, 0, toAll(5, 6), fdb.New(), 2, 3, 5)
	leavesAt(t, ports, 0, toAll(6, 6), fdb.New())
	for _, vid := range vids {
		leavesAt(t, []Port{open(1), open(1, vid-1, vid+1), open(1, vid)}, 0, toAll(vid, 0), nil, 2)
	}
}

// TestOnceAtEach: though a network stands among the members more than once.
func TestOnceAtEach(t *testing.T) {
	ports := []Port{open(1, 4, 4), open(1, 4, 4), open(1, 4, 3, 4, 4), open(1, 3, 3)}
	leavesAt(t, ports, 0, toAll(4, 0), fdb.New(), 1, 2)
	leavesAt(t, ports, 0, to(toAll(4, 0), 9), knows(t, 4, 9, 2), 2)
}

// TestMembersThatAreNoNetworks: what belongs to none goes nowhere, though its number stands there.
func TestMembersThatAreNoNetworks(t *testing.T) {
	for _, no := range noVids {
		ports := []Port{open(no, no), open(no, no), open(no, no, 4)}
		leaves(t, ports, 0, plain(), fdb.New())
		leaves(t, ports, 0, toAll(0, 0), fdb.New())
		if no != 0 {
			leaves(t, ports, 0, toAll(no, 0), fdb.New())
		}
		leavesAt(t, ports, 0, toAll(4, 0), fdb.New(), 2)
	}
}

// TestNoMemberWhereItComesIn: that port needn't be one, nor have that network.
func TestNoMemberWhereItComesIn(t *testing.T) {
	leavesAt(t, []Port{open(0), open(1, 4)}, 0, toAll(4, 0), fdb.New(), 1)
	leaves(t, []Port{open(4), open(1, 4)}, 0, plain(), fdb.New(), Sent{1, toAll(4, 0)})
}

func TestWhatCannotBe(t *testing.T) {
	for _, f := range wrongs() {
		leaves(t, three(4), 0, f, fdb.New())
	}
	for _, f := range []api.Frame{{Dst: addr.All, Src: 7, Vid: 4}, {Dst: addr.All, Src: 7, Prio: 1}} { // without a tag
		leaves(t, three(1, 4), 0, f, fdb.New())
	}
}

// TestEdgesOfWhatCanBe: these go on.
func TestEdgesOfWhatCanBe(t *testing.T) {
	for _, prio := range []int{0, 1, 6, 7} {
		leavesAt(t, three(4), 0, toAll(4, prio), fdb.New(), 1, 2)
	}
	for _, kind := range []int{0, 1536, addr.TypeTag - 1, addr.TypeTag + 1, addr.TypeVlans, 65535} {
		f := toAll(4, 0)
		f.Type = kind
		leavesAt(t, three(4), 0, f, fdb.New(), 1, 2)
	}
	f := toAll(4, 0)
	for _, f.Data = range []string{"", strings.Repeat("x", 400), "\x00\xff"} {
		leavesAt(t, three(4), 0, f, fdb.New(), 1, 2)
	}
	for _, src := range ones {
		leavesAt(t, three(4), 0, of(toAll(4, 0), src), fdb.New(), 1, 2)
	}
}

func TestKept(t *testing.T) {
	for _, dst := range kept {
		leaves(t, three(4), 0, to(toAll(4, 0), dst), fdb.New())
	}
	for _, dst := range slices.Concat(many, ones) {
		leavesAt(t, three(4), 0, to(toAll(4, 0), dst), fdb.New(), 1, 2)
	}
}

// TestTags: with the network's tag and the frame's Prio, but untagged where the port strips, and the network is its own.
func TestTags(t *testing.T) {
	ports := []Port{open(4, 4), {api.Forwarding, 4, true, []int{4, 6}}, {api.Forwarding, 4, false, []int{4, 6}}, {api.Forwarding, 6, true, []int{4, 6}}}
	leaves(t, ports, 0, plain(), nil, Sent{1, plain()}, Sent{2, toAll(4, 0)}, Sent{3, toAll(4, 0)})
	leaves(t, ports, 0, toAll(0, 5), nil, Sent{1, plain()}, Sent{2, toAll(4, 5)}, Sent{3, toAll(4, 5)})
	leaves(t, ports, 0, toAll(4, 7), nil, Sent{1, plain()}, Sent{2, toAll(4, 7)}, Sent{3, toAll(4, 7)})
	leaves(t, ports, 0, toAll(6, 1), nil, Sent{1, toAll(6, 1)}, Sent{2, toAll(6, 1)}, Sent{3, plain()})
	leaves(t, ports, 1, toAll(6, 1), nil, Sent{2, toAll(6, 1)}, Sent{3, plain()})
}

// TestTagsWhereItIsKnown: there alone it goes as it would among others.
func TestTagsWhereItIsKnown(t *testing.T) {
	ports := []Port{open(4), {api.Forwarding, 4, true, []int{4}}, {api.Forwarding, 5, true, []int{4}}}
	leaves(t, ports, 0, to(toAll(0, 3), 9), knows(t, 4, 9, 1), Sent{1, to(plain(), 9)})
	leaves(t, ports, 0, to(plain(), 9), knows(t, 4, 9, 2), Sent{2, to(toAll(4, 0), 9)})
}

func TestKnown(t *testing.T) {
	ports := []Port{open(1, 4), open(1, 4), open(1, 4), open(1, 5)}
	for _, dst := range ones {
		f := to(toAll(4, 2), dst)
		leavesAt(t, ports, 0, f, knows(t, 4, dst, 1), 1)
		leavesAt(t, ports, 0, f, knows(t, 4, dst, 2), 2)
		leavesAt(t, ports, 2, f, knows(t, 4, dst, 0), 0)
		leaves(t, ports, 0, f, knows(t, 4, dst, 0)) // where it came
		leaves(t, ports, 0, f, knows(t, 4, dst, 3)) // no member
		leaves(t, ports, 0, f, knows(t, 4, dst, 4)) // no port
		leaves(t, ports, 0, f, knows(t, 4, dst, 5))
	}
}

// TestNotKnown: where another address is, or this one in another network, doesn't count.
func TestNotKnown(t *testing.T) {
	f := to(toAll(4, 2), 9)
	leavesAt(t, three(4), 0, f, knows(t, 4, 8, 1), 1, 2)
	leavesAt(t, three(4), 0, f, knows(t, 4, f.Src, 1), 1, 2)
	leavesAt(t, three(4), 0, f, knows(t, 5, 9, 1), 1, 2)
	leavesAt(t, three(4), 0, f, knows(t, 1, 9, 1), 1, 2)
	leavesAt(t, three(4), 0, f, fdb.New(), 1, 2)
	leavesAt(t, three(4), 0, f, nil, 1, 2)
}

// TestKnownByItsNetwork: without a tag it is looked for in the network to which it belongs.
func TestKnownByItsNetwork(t *testing.T) {
	ports := []Port{open(4), open(1, 1, 4), open(1, 1, 4)}
	x := knows(t, 4, 9, 2)
	x.Learn(1, 9, 1, 1)
	leaves(t, ports, 0, to(plain(), 9), x, Sent{2, to(toAll(4, 0), 9)})
	leaves(t, ports, 0, to(toAll(0, 0), 9), x, Sent{2, to(toAll(4, 0), 9)})
	leaves(t, ports, 0, to(toAll(1, 0), 9), x, Sent{1, to(toAll(1, 0), 9)})
}

// TestKnownAsItStands: what somebody said counts like what was seen; how long ago that was isn't asked; what is gone isn't known.
func TestKnownAsItStands(t *testing.T) {
	f := to(toAll(4, 2), 9)
	x := fdb.New()
	x.Fix(4, 9, 2)
	leavesAt(t, three(4), 0, f, x, 2)
	x = fdb.New()
	x.Learn(4, 9, 2, math.MinInt)
	leavesAt(t, three(4), 0, f, x, 2)
	x.Learn(4, 9, 1, math.MaxInt)
	leavesAt(t, three(4), 0, f, x, 1)
	x.Flush(1)
	leavesAt(t, three(4), 0, f, x, 1, 2)
}

// TestManyPorts: as many as there are, those too at which a table knows nothing.
func TestManyPorts(t *testing.T) {
	var ports []Port
	var want []int
	for i := range 300 {
		ports = append(ports, open(1, 4))
		if i != 77 {
			want = append(want, i)
		}
	}
	leavesAt(t, ports, 77, toAll(4, 0), fdb.New(), want...)
	leavesAt(t, ports, 299, to(toAll(4, 0), 9), knows(t, 4, 9, 5), 5)
	learns(t, ports, 299, toAll(4, 0), true)
	learns(t, ports, 300, toAll(4, 0), false)
}

// TestNothingIsChanged: neither ports and members, spare room included, nor the table.
func TestNothingIsChanged(t *testing.T) {
	room := []int{4, 5, 6, 7}
	all := []Port{open(1, 4), {api.Forwarding, 4, true, room[:2]}, open(1, 4), open(8, 8)}
	x := knows(t, 4, 9, 1)
	before := x.All()
	for _, f := range []api.Frame{toAll(4, 0), plain(), to(plain(), 9), of(plain(), 9)} {
		Class(all[1], f)
		Learns(all[:3], 1, f)
		Relay(all[:3], 0, f, x)
	}
	if !slices.Equal(room, []int{4, 5, 6, 7}) || !slices.Equal(x.All(), before) || x.Fails() != 0 {
		t.Errorf("%v, %v", room, x.All())
	}
	for i, p := range []Port{open(1, 4), {api.Forwarding, 4, true, []int{4, 5}}, open(1, 4), open(8, 8)} {
		if q := all[i]; q.State != p.State || q.Pvid != p.Pvid || q.Strip != p.Strip || !slices.Equal(q.Members, p.Members) {
			t.Errorf("%d: %+v, not %+v", i, q, p)
		}
	}
}

// TestAnswersAreNewMemory: what is written into one isn't seen in the next one.
func TestAnswersAreNewMemory(t *testing.T) {
	ports := three(4)
	first := Relay(ports, 0, toAll(4, 0), nil)
	if len(first) != 2 {
		t.Fatalf("%+v", first)
	}
	for i := range first[:cap(first)] {
		first[:cap(first)][i] = Sent{Port: 9}
	}
	leavesAt(t, ports, 0, toAll(4, 0), nil, 1, 2)
}
