package station

import (
	"math"
	"slices"
	"strings"
	"testing"

	"kissgate/addr"
	"kissgate/api"
	"kissgate/frame"
	"kissgate/mrpdu"
)

const own = 0x50 // the address of the stations that are tried

// noVids and noMacs are numbers that are no network's, and no station's.
var (
	noVids = []int{math.MinInt, -1 << 32, -7, -1, 0, 4095, 4096, 1<<32 + 7, math.MaxInt}
	noMacs = []int{math.MinInt, -1, 1 << 40, 1<<40 + 5, addr.Tree, addr.Vlans, addr.Group, addr.All, 1 << 48, 1<<48 + own, math.MaxInt}
)

// is fails unless two things are the same.
func is[T comparable](t *testing.T, what string, got, want T) {
	t.Helper()
	if got != want {
		t.Errorf("%s: %+v, not %+v", what, got, want)
	}
}

// are fails unless two lists are the same.
func are[T comparable](t *testing.T, what string, got, want []T) {
	t.Helper()
	if !slices.Equal(got, want) {
		t.Errorf("%s: %+v, not %+v", what, got, want)
	}
}

// word answers a word of a network.
func word(vid, event, born int) api.Word {
	return api.Word{Attr: network(vid), Event: event, Born: born}
}

// attrs answers a frame of a message about attributes, of such an address.
func attrs(t *testing.T, src int, m mrpdu.Pdu) api.Frame {
	t.Helper()
	s, e := mrpdu.Bytes(m)
	is(t, "mrpdu.Bytes", e, api.OK)
	return api.Frame{Dst: addr.Vlans, Src: src, Type: addr.TypeVlans, Data: s}
}

// says fails unless a station says just these words at a tick.
func says(t *testing.T, s *Station, now int, words ...api.Word) {
	t.Helper()
	tells(t, s, now, mrpdu.Pdu{Words: words})
}

// tells fails unless a station says just this message at a tick; nothing, if it is empty.
func tells(t *testing.T, s *Station, now int, m mrpdu.Pdu) {
	t.Helper()
	var want api.Frame
	some := len(m.All)+len(m.Words) > 0
	if some {
		want = attrs(t, s.Mac(), m)
	}
	f, any := s.Tick(now)
	if f != want || any != some {
		got, _, _ := mrpdu.Read(f.Data)
		t.Errorf("at %d: %+v, %v, %+v, not %+v", now, f, any, got, m)
	}
}

// station answers one that says some networks.
func station(t *testing.T, vids ...int) *Station {
	t.Helper()
	s := New(own)
	for _, n := range vids {
		is(t, "Say", s.Say(n, true), api.OK)
	}
	return s
}

// quiet answers one that has said all that it has to say, at the tick 8.
func quiet(t *testing.T, vids ...int) *Station {
	t.Helper()
	s := station(t, vids...)
	for now := 1; now <= 8; now++ {
		s.Tick(now)
	}
	return s
}

// data answers a frame of data, tagged with a network.
func data(dst, src int) api.Frame {
	return api.Frame{Dst: dst, Src: src, Tagged: true, Vid: 7, Type: addr.TypeData, Data: "hi"}
}

func TestExample(t *testing.T) {
	s := New(own)
	is(t, "Say", s.Say(7, true), api.OK)
	says(t, s, 2, word(7, api.EvNew, 2))
}

func TestNew(t *testing.T) {
	for _, mac := range []int{0, 1, own, 1<<40 - 1, 2 << 40, 0xfeffffffffff} {
		s := New(mac, 1, 2)
		if s == nil {
			t.Fatalf("%d: nil", mac)
		}
		is(t, "Mac", s.Mac(), mac)
		is(t, "Vids", len(s.Vids()), 0)
		is(t, "Got", len(s.Got()), 0)
		tells(t, s, 0, mrpdu.Pdu{})
	}
	for _, mac := range noMacs {
		if New(mac) != nil || New(mac, 1) != nil {
			t.Errorf("%d: a station", mac)
		}
	}
}

// TestNil: of a nil station nothing, 0.
func TestNil(t *testing.T) {
	var s *Station
	for _, n := range append(noVids, 1, 7) {
		is(t, "Say", s.Say(n, true), api.ErrNil)
		is(t, "Say", s.Say(n, false), api.ErrNil)
		f, e := s.Send(n, n, strings.Repeat("x", 65))
		is(t, "Send", e, api.ErrNil)
		is(t, "Send", f, api.Frame{})
		f, any := s.Tick(n)
		is(t, "Tick", f, api.Frame{})
		is(t, "Tick", any, false)
		s.In(data(addr.All, 1), n)
		s.In(attrs(t, 1, mrpdu.Pdu{All: []int{1}}), n)
	}
	s.Clear()
	is(t, "Mac", s.Mac(), 0)
	is(t, "Vids", len(s.Vids()), 0)
	is(t, "Got", len(s.Got()), 0)
}

// TestSay: up to 16 networks are said; what is said already may be said.
func TestSay(t *testing.T) {
	s := New(own)
	var want []int
	for n := range 16 {
		is(t, "Say", s.Say(4094-n, true), api.OK)
		is(t, "Say", s.Say(4094-n, true), api.OK)
		want = append([]int{4094 - n}, want...)
		are(t, "Vids", s.Vids(), want)
	}
	is(t, "Say", s.Say(7, true), api.ErrFull)
	is(t, "Say", s.Say(7, false), api.OK)
	is(t, "Say", s.Say(4080, true), api.OK)
	are(t, "Vids", s.Vids(), want)
	is(t, "Say", s.Say(4080, false), api.OK)
	is(t, "Say", s.Say(4080, false), api.OK)
	is(t, "Say", s.Say(1, true), api.OK)
	is(t, "Say", s.Say(4080, true), api.ErrFull)
	for _, no := range noVids {
		is(t, "Say", s.Say(no, true), api.ErrArg)
		is(t, "Say", s.Say(no, false), api.ErrArg)
	}
	are(t, "Vids", s.Vids(), append([]int{1, 4079}, want[2:]...))
}

// TestVids: they rise in whatever order they came, and are the caller's own.
func TestVids(t *testing.T) {
	s := station(t, 9, 4094, 7, 1, 100)
	list := s.Vids()
	are(t, "Vids", list, []int{1, 7, 9, 100, 4094})
	clear(list)
	are(t, "Vids", s.Vids(), []int{1, 7, 9, 100, 4094})
	_ = append(s.Vids()[:1], 3, 3)
	are(t, "Vids", s.Vids(), []int{1, 7, 9, 100, 4094})
	s.Say(7, false)
	s.Say(4094, false)
	are(t, "Vids", s.Vids(), []int{1, 9, 100})
	says(t, s, 2, word(1, api.EvNew, 2), word(9, api.EvNew, 2), word(100, api.EvNew, 2))
}

// TestSaid: it is said twice at even ticks, each time as of now; then again from Periodic-th tick to Periodic-th tick.
func TestSaid(t *testing.T) {
	s := station(t, 9, 7)
	says(t, s, 1)
	says(t, s, 2, word(7, api.EvNew, 2), word(9, api.EvNew, 2))
	says(t, s, 3)
	says(t, s, 4, word(7, api.EvJoinIn, 4), word(9, api.EvJoinIn, 4))
	for now := 5; now < 60; now++ {
		var words []api.Word
		if now%6 == 0 {
			words = []api.Word{word(7, api.EvJoinIn, now), word(9, api.EvJoinIn, now)}
		}
		says(t, s, now, words...)
	}
}

// TestLeft: what is said no more is left once, at the next even tick, and no more wanted behind it.
func TestLeft(t *testing.T) {
	s := quiet(t, 7, 9)
	is(t, "Say", s.Say(7, false), api.OK)
	are(t, "Vids", s.Vids(), []int{9})
	says(t, s, 9)
	says(t, s, 10, word(7, api.EvLv, 8))
	says(t, s, 12, word(9, api.EvJoinIn, 12))
	says(t, s, 14)
}

// TestLeftAhead: what wasn't told yet needs no end.
func TestLeftAhead(t *testing.T) {
	s := station(t, 7)
	is(t, "Say", s.Say(7, false), api.OK)
	for now := 1; now < 20; now++ {
		says(t, s, now)
	}
}

// TestLeftWanted: what was wanted is left, though nothing could be said of it yet.
func TestLeftWanted(t *testing.T) {
	s := station(t, 7)
	says(t, s, 1)
	is(t, "Say", s.Say(7, false), api.OK)
	says(t, s, 2, word(7, api.EvLv, 1))
	says(t, s, 6)
}

// TestAgain: what is said no more, and then again, isn't left; its part wanted it no more in between, so it says it once more.
func TestAgain(t *testing.T) {
	s := quiet(t, 7)
	is(t, "Say", s.Say(7, false), api.OK)
	is(t, "Say", s.Say(7, true), api.OK)
	says(t, s, 9)
	says(t, s, 10, word(7, api.EvJoinIn, 10))
	says(t, s, 11)
	says(t, s, 14)
}

// TestAgainLeft: what was left, and is said again, is said as at first.
func TestAgainLeft(t *testing.T) {
	s := quiet(t, 7)
	s.Say(7, false)
	says(t, s, 10, word(7, api.EvLv, 8))
	s.Say(7, true)
	says(t, s, 14, word(7, api.EvNew, 14))
	says(t, s, 16, word(7, api.EvJoinIn, 16))
}

// TestSaidAlready: who says what is said already changes nothing.
func TestSaidAlready(t *testing.T) {
	s := quiet(t, 7)
	is(t, "Say", s.Say(7, true), api.OK)
	is(t, "Say", s.Say(9, false), api.OK)
	says(t, s, 10)
	says(t, s, 12, word(7, api.EvJoinIn, 12))
}

// TestFull: all 16 are told; one that is said in another one's place is told when that one has left.
func TestFull(t *testing.T) {
	s := New(own)
	for n := range 16 {
		is(t, "Say", s.Say(4094-5*n, true), api.OK)
	}
	f, any := s.Tick(2)
	m, wrong, _ := mrpdu.Read(f.Data)
	is(t, "Tick", any && !wrong && frame.Good(f), true)
	is(t, "words", len(m.Words), 16)
	for now := 3; now <= 8; now++ {
		s.Tick(now)
	}
	s.Say(4094, false)
	is(t, "Say", s.Say(1, true), api.OK)
	says(t, s, 9)
	says(t, s, 10, word(4094, api.EvLv, 8))
	says(t, s, 11)
	f, _ = s.Tick(12)
	m, _, _ = mrpdu.Read(f.Data)
	is(t, "words", len(m.Words), 16)
	is(t, "first", m.Words[0], word(1, api.EvNew, 12))
}

// TestFullOrder: where there is room for one of two, the lower one has it.
func TestFullOrder(t *testing.T) {
	s := New(own)
	for n := range 16 {
		is(t, "Say", s.Say(100+n, true), api.OK)
	}
	for now := 1; now <= 12; now++ {
		s.Tick(now)
	}
	s.Say(101, false)
	says(t, s, 14, word(101, api.EvLv, 12))
	is(t, "Say", s.Say(200, true), api.OK)
	s.Say(102, false)
	is(t, "Say", s.Say(50, true), api.OK)
	says(t, s, 15)
	says(t, s, 16, word(50, api.EvNew, 16), word(102, api.EvLv, 14))
	f, _ := s.Tick(18)
	m, _, _ := mrpdu.Read(f.Data)
	is(t, "words", len(m.Words), 16)
	is(t, "first", m.Words[0], word(50, api.EvJoinIn, 18))
	is(t, "last", m.Words[15], word(200, api.EvNew, 18))
}

// TestAsks: by its draws all is asked for, from 60 ticks on; what it says itself it tells once more by that.
func TestAsks(t *testing.T) {
	draws := []int{5, 30}
	s := New(own, draws...)
	clear(draws)
	var asked []int
	for now := 1; now < 400; now++ {
		if f, any := s.Tick(now); any {
			is(t, "asks", f, attrs(t, own, mrpdu.Pdu{All: []int{api.AttrVid}}))
			asked = append(asked, now)
		}
	}
	are(t, "asked", asked, []int{66, 156, 220, 310, 376})
	s = New(own, 5)
	s.Say(7, true)
	for now := range 65 {
		s.Tick(now)
	}
	says(t, s, 65)
	w := word(7, api.EvJoinIn, 68)
	says(t, s, 67)
	tells(t, s, 68, mrpdu.Pdu{All: []int{api.AttrVid}, Words: []api.Word{w}})
	says(t, s, 70)
}

// TestMaxTicks: as of the last tick all is said; beyond it the words stay as they were, and can be.
func TestMaxTicks(t *testing.T) {
	s := station(t, 7)
	m := mrpdu.Pdu{All: []int{api.AttrVid}, Words: []api.Word{word(7, api.EvNew, api.MaxTicks)}}
	tells(t, s, api.MaxTicks, m)
	for _, now := range []int{api.MaxTicks + 2, 1 << 40, math.MaxInt - 1} {
		f, any := s.Tick(now)
		is(t, "Good", frame.Good(f) || !any, true)
	}
}

func TestSend(t *testing.T) {
	s := station(t, 9)
	most := strings.Repeat("\xff", 64)
	for _, vid := range []int{1, 7, 9, 4094} {
		for _, dst := range []int{0, 6, own, 1 << 40, addr.Tree - 1, addr.Tree + 16, addr.Group - 1, addr.Vlans + 1, addr.All} {
			for _, text := range []string{"", "hi", most} {
				f, e := s.Send(vid, dst, text)
				is(t, "Send", e, api.OK)
				is(t, "Send", f, api.Frame{Dst: dst, Src: own, Tagged: true, Vid: vid, Type: 0x0800, Data: text})
				is(t, "Good", frame.Good(f), true)
			}
		}
	}
	is(t, "Got", len(s.Got()), 0)
	are(t, "Vids", s.Vids(), []int{9})
}

func TestSendOfNone(t *testing.T) {
	s := station(t, 7)
	fails := func(vid, dst int, text string) {
		t.Helper()
		f, e := s.Send(vid, dst, text)
		is(t, "Send", e, api.ErrArg)
		is(t, "Send", f, api.Frame{})
	}
	for _, no := range noVids {
		fails(no, 6, "hi")
	}
	for _, no := range []int{math.MinInt, -1, 1 << 48, 1<<48 + 6, math.MaxInt, addr.Tree, addr.Tree + 1, addr.Tree + 15, addr.Vlans, addr.Group} {
		fails(7, no, "hi")
	}
	fails(7, 6, strings.Repeat("x", 65))
	fails(7, 6, strings.Repeat("x", 400))
}

// TestKept: frames to the station, and to many, are kept as they came, whoever sent them.
func TestKept(t *testing.T) {
	s := station(t, 9)
	list := []api.Frame{
		data(own, 1),
		{Dst: own, Src: 2},
		{Dst: own, Src: own, Type: 0x86dd, Data: strings.Repeat("x", 400)},
		{Dst: addr.All, Src: 1, Tagged: true, Prio: 7, Type: addr.TypeData},
		{Dst: 1 << 40, Src: 1, Type: addr.TypeVlans, Data: "x"},
		{Dst: addr.Tree + 16, Src: 1},
		{Dst: addr.Tree - 1, Src: 1, Tagged: true, Vid: 4094, Type: addr.TypeData},
		data(addr.Vlans+1, 1),
		data(addr.Group-1, 1),
		data(own, 1),
	}
	for _, f := range list {
		s.In(f, 5)
	}
	are(t, "Got", s.Got(), list)
	clear(s.Got())
	_ = append(s.Got()[:1], data(own, 3))
	are(t, "Got", s.Got(), list)
	s.Clear()
	is(t, "Got", len(s.Got()), 0)
	s.In(data(own, 4), 6)
	are(t, "Got", s.Got(), []api.Frame{data(own, 4)})
}

// TestPassedOver: what is for others, for nobody but a bridge, or can't be isn't kept, and changes nothing.
func TestPassedOver(t *testing.T) {
	s := quiet(t, 7)
	long := data(own, 1)
	long.Data = strings.Repeat("x", 401)
	ask, _ := mrpdu.Bytes(mrpdu.Pdu{All: []int{api.AttrVid}})
	list := []api.Frame{
		data(own+1, 1), data(0, 1), data(own+2<<40, 1), data(0xfeffffffffff, own),
		{Dst: addr.Tree, Src: 1}, data(addr.Tree, 1), data(addr.Tree+1, 1), data(addr.Tree+15, 1),
		data(addr.Vlans, 1), data(addr.Group, 1), {Dst: addr.Vlans, Src: 1, Data: ask},
		{Dst: addr.Vlans, Src: 1, Type: addr.TypeGroup, Data: ask},
		{Dst: addr.Group, Src: 1, Type: addr.TypeGroup, Data: ask},
		{Dst: addr.Group, Src: 1, Type: addr.TypeVlans, Data: ask},
		{Dst: addr.Tree, Src: 1, Type: addr.TypeVlans, Data: ask},
		{Dst: own + 1, Src: 1, Type: addr.TypeVlans, Data: ask},
		long, data(own, 1<<40), data(own, addr.All), data(own, -1), data(own, 1<<48), data(1<<48+own, 1), data(-1, 1), data(1<<48+1<<40, 1),
		{Dst: own, Src: 1, Vid: 7, Type: addr.TypeData}, {Dst: own, Src: 1, Prio: 1, Type: addr.TypeData},
		{Dst: own, Src: 1, Tagged: true, Vid: 4095}, {Dst: own, Src: 1, Tagged: true, Vid: -1}, {Dst: own, Src: 1, Tagged: true, Prio: 8},
		{Dst: own, Src: 1, Type: addr.TypeTag}, {Dst: own, Src: 1, Type: 1535}, {Dst: own, Src: 1, Type: 65536}, {Dst: addr.All, Src: 1, Type: 1},
		{Dst: addr.Vlans, Src: 1 << 40, Type: addr.TypeVlans, Data: ask},
		{Dst: addr.Vlans, Src: 1, Vid: 7, Type: addr.TypeVlans, Data: ask},
		{Dst: addr.Vlans, Src: 1, Type: addr.TypeVlans, Data: ask + strings.Repeat("x", 400)},
	}
	for _, f := range list {
		s.In(f, 9)
		is(t, "Got", len(s.Got()), 0)
	}
	are(t, "Vids", s.Vids(), []int{7})
	says(t, s, 10)
}

// TestMaxGot: the first 100 frames are kept, till they are forgotten.
func TestMaxGot(t *testing.T) {
	s := New(own)
	var want []api.Frame
	for n := range 150 {
		f := data([]int{own, addr.All}[n%2], n)
		s.In(f, n)
		if n < 100 {
			want = append(want, f)
		}
		are(t, "Got", s.Got(), want)
	}
	is(t, "MaxGot", MaxGot, 100)
	s.Clear()
	is(t, "Got", len(s.Got()), 0)
	for n := range 101 {
		s.In(data(own, n+1), n)
	}
	is(t, "Got", len(s.Got()), 100)
	is(t, "last", s.Got()[99], data(own, 100))
}

// TestFullHears: where there is no room for frames, messages are heard still.
func TestFullHears(t *testing.T) {
	s := quiet(t, 7)
	for n := range 101 {
		s.In(data(own, n), 9)
	}
	s.In(attrs(t, 1, mrpdu.Pdu{All: []int{api.AttrVid}}), 9)
	says(t, s, 10, word(7, api.EvJoinIn, 10))
	is(t, "Got", len(s.Got()), 100)
}

// TestAsked: where all networks are asked for, tagged or not, all is said once more; the message isn't kept.
func TestAsked(t *testing.T) {
	m := mrpdu.Pdu{All: []int{api.AttrVid}}
	for _, m := range []mrpdu.Pdu{m, {All: []int{1, 2, 3}}, {All: m.All, Words: []api.Word{word(7, api.EvLv, 1), word(8, api.EvNew, 1)}}} {
		for _, tag := range []bool{false, true} {
			s := quiet(t, 7, 9)
			f := attrs(t, 1, m)
			if tag {
				f = frame.Tag(f, 5, 3)
			}
			s.In(f, 9)
			says(t, s, 9)
			says(t, s, 10, word(7, api.EvJoinIn, 10), word(9, api.EvJoinIn, 10))
			says(t, s, 11)
			says(t, s, 14)
			is(t, "Got", len(s.Got()), 0)
			are(t, "Vids", s.Vids(), []int{7, 9})
		}
	}
}

// TestNotAsked: other types that are asked for, and words of whatever kind, change nothing of what is said.
func TestNotAsked(t *testing.T) {
	group := api.Attr{Type: api.AttrGroup, Value: 1 << 40}
	for _, m := range []mrpdu.Pdu{{}, {All: []int{2}}, {All: []int{2, 3}}, {Words: []api.Word{{Attr: group, Event: api.EvJoinIn, Born: 8}}}} {
		s := quiet(t, 7)
		s.In(attrs(t, 1, m), 9)
		says(t, s, 10)
		is(t, "Got", len(s.Got()), 0)
	}
	for event := range 6 {
		s := quiet(t, 7)
		s.In(attrs(t, 1, mrpdu.Pdu{Words: []api.Word{word(7, event, 8), word(9, event, 8)}}), 9)
		says(t, s, 10)
		says(t, s, 12, word(7, api.EvJoinIn, 12))
	}
}

// TestWordsTakeNoRoom: others' words take no room in the part, however many they are.
func TestWordsTakeNoRoom(t *testing.T) {
	s := New(own)
	for n := range 40 {
		s.In(attrs(t, 1, mrpdu.Pdu{Words: []api.Word{word(200+n, api.EvNew, 1)}}), 1)
	}
	var want []api.Word
	for n := range 16 {
		is(t, "Say", s.Say(300+n, true), api.OK)
		want = append(want, word(300+n, api.EvNew, 2))
	}
	says(t, s, 2, want...)
}

// TestWrong: what stands ahead of the first wrong part is heard; of what is no message nothing.
func TestWrong(t *testing.T) {
	ask, _ := mrpdu.Bytes(mrpdu.Pdu{All: []int{api.AttrVid}})
	part := ask[1 : len(ask)-2]
	for _, c := range []struct {
		text  string
		heard bool
	}{
		{ask, true}, {ask + "x", true}, {ask[:len(ask)-2], true}, {ask[:len(ask)-2] + "\x09", true}, {"\x00" + part + part, true},
		{ask[:len(ask)-4], false}, {"\x01" + ask[1:], false}, {"", false}, {"\x00", false}, {"no", false}, {"\x00\x07" + part, false},
	} {
		s := quiet(t, 7)
		s.In(api.Frame{Dst: addr.Vlans, Src: 1, Type: addr.TypeVlans, Data: c.text}, 9)
		if _, any := s.Tick(10); any != c.heard {
			t.Errorf("%q: %v", c.text, any)
		}
		is(t, "Got", len(s.Got()), 0)
	}
}

// TestAskedOfLeft: who asks for all hears nothing more of what leaves than that.
func TestAskedOfLeft(t *testing.T) {
	s := quiet(t, 7)
	s.Say(7, false)
	s.In(attrs(t, 1, mrpdu.Pdu{All: []int{api.AttrVid}}), 9)
	says(t, s, 10, word(7, api.EvLv, 8))
	s.In(attrs(t, 1, mrpdu.Pdu{All: []int{api.AttrVid}}), 11)
	says(t, s, 12)
}

// TestTwo: stations know nothing of one another.
func TestTwo(t *testing.T) {
	a, b := station(t, 7), station(t, 9)
	a.In(data(own, 1), 1)
	says(t, a, 2, word(7, api.EvNew, 2))
	says(t, b, 2, word(9, api.EvNew, 2))
	is(t, "Got", len(b.Got()), 0)
	b.Clear()
	is(t, "Got", len(a.Got()), 1)
}
