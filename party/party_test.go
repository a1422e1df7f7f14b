package party

import (
	"math"
	"math/rand"
	"slices"
	"testing"

	"kissgate/addr"
	"kissgate/api"
	"kissgate/mrpdu"
)

// noAttrs are attributes that can't be, noModes numbers that are no modes, belows ones that are no ticks.
var (
	noAttrs = []api.Attr{{}, {Type: 1}, vid(-1), vid(4095), {Type: 2}, {Type: 2, Value: 2}, {Type: 2, Value: 1 << 48}, serv(-1), serv(2), {Type: 4, Value: 1}, {Type: -1, Value: 1}, {Type: 1<<32 + 1, Value: 1}}
	noModes = []int{math.MinInt, -1 << 32, -1, 3, 4, 256, 1 << 32, 1<<32 + 1, math.MaxInt}
	belows  = []int{-1, -2, -121, -1 << 32, math.MinInt}
	joins   = []int{api.EvNew, api.EvJoinIn, api.EvJoinMt}
)

func vid(n int) api.Attr  { return api.Attr{Type: api.AttrVid, Value: n} }
func serv(n int) api.Attr { return api.Attr{Type: api.AttrServ, Value: n} }

// group answers one of the groups that rise with n.
func group(n int) api.Attr { return api.Attr{Type: api.AttrGroup, Value: addr.Group + n<<8} }

func word(a api.Attr, event, born int) api.Word { return api.Word{Attr: a, Event: event, Born: born} }

func words(list ...api.Word) mrpdu.Pdu { return mrpdu.Pdu{Words: list} }

// equal answers whether two messages say the same.
func equal(a, b mrpdu.Pdu) bool {
	return slices.Equal(a.All, b.All) && slices.Equal(a.Words, b.Words)
}

// modes, wants, hears fail unless a port's part answers so.
func modes(t *testing.T, p *Party, a api.Attr, mode int, want api.Errno) {
	t.Helper()
	if e := p.Mode(a, mode); e != want {
		t.Fatalf("Mode(%v, %d): %d, not %d", a, mode, e, want)
	}
}

func wants(t *testing.T, p *Party, a api.Attr, born int, new bool, want api.Errno) {
	t.Helper()
	if e := p.Want(a, born, new); e != want {
		t.Fatalf("Want(%v, %d, %v): %d, not %d", a, born, new, e, want)
	}
}

func hears(t *testing.T, p *Party, m mrpdu.Pdu, now int) {
	t.Helper()
	if e := p.Hear(m, now); e != api.OK {
		t.Fatalf("Hear(%v, %d): %d", m, now, e)
	}
}

// says, silent fail unless a port's part says just that at a tick.
func says(t *testing.T, p *Party, now int, want mrpdu.Pdu) {
	t.Helper()
	if m, any := p.Tick(now); !any || !equal(m, want) {
		t.Fatalf("Tick(%d): %v, %v, not %v", now, m, any, want)
	}
}

func silent(t *testing.T, p *Party, now int) {
	t.Helper()
	if m, any := p.Tick(now); any || len(m.All)+len(m.Words) > 0 {
		t.Fatalf("Tick(%d): %v, %v, not nothing", now, m, any)
	}
}

// has, hasNot fail unless an attribute is registered by a word of that tick, or isn't.
func has(t *testing.T, p *Party, a api.Attr, now, born int) {
	t.Helper()
	if !p.Has(a) || p.Born(a, now) != born {
		t.Fatalf("%v at %d: Has %v, Born %d, not true, %d", a, now, p.Has(a), p.Born(a, now), born)
	}
}

func hasNot(t *testing.T, p *Party, a api.Attr, now int) {
	t.Helper()
	if p.Has(a) || p.Born(a, now) != -1 {
		t.Fatalf("%v at %d: Has %v, Born %d, not false, -1", a, now, p.Has(a), p.Born(a, now))
	}
}

// keeps fails unless a port's part keeps just that, and failed so often.
func keeps(t *testing.T, p *Party, fails int, attrs ...api.Attr) {
	t.Helper()
	if !slices.Equal(p.Attrs(), attrs) || p.Fails() != fails {
		t.Fatalf("Attrs %v, Fails %d, not %v, %d", p.Attrs(), p.Fails(), attrs, fails)
	}
}

// full answers a port's part that is full: it says, at once behind its first tick, the networks from 100 on.
func full(t *testing.T) *Party {
	t.Helper()
	p := New()
	for i := range api.MaxAttrs {
		wants(t, p, vid(100+i), 1, false, api.OK)
	}
	return p
}

func TestExample(t *testing.T) {
	for _, a := range []api.Attr{vid(7), group(7), serv(1)} {
		for _, new := range []bool{false, true} {
			p := New()
			wants(t, p, a, 3, new, api.OK)
			says(t, p, 4, words(word(a, api.EvNew, 3)))
		}
	}
}

func TestAtFirst(t *testing.T) {
	p := New(1, 2, 3)
	keeps(t, p, 0)
	for _, a := range append(noAttrs, vid(1), group(1), serv(0)) {
		hasNot(t, p, a, 5)
		if p.Says(a) {
			t.Errorf("%v is said", a)
		}
	}
	p.Flush(0)
	for now := range 60 {
		silent(t, p, now)
	}
	keeps(t, p, 0)
}

func TestNil(t *testing.T) {
	var p *Party
	for _, a := range append(noAttrs, vid(1), group(1), serv(0)) {
		for _, n := range append(noModes, 0, 1, 2) {
			modes(t, p, a, n, api.ErrNil)
			wants(t, p, a, n, true, api.ErrNil)
			if e := p.Hear(words(word(a, api.EvNew, n)), n); e != api.ErrNil {
				t.Errorf("Hear: %d", e)
			}
			silent(t, p, n)
			p.Flush(n)
			hasNot(t, p, a, n)
			if p.Says(a) {
				t.Errorf("%v is said", a)
			}
		}
	}
	keeps(t, p, 0)
}

// TestErrArg: what can't be changes nothing, neither of an empty part nor of a full one, where it is named ahead of ErrFull.
func TestErrArg(t *testing.T) {
	for _, p := range []*Party{New(), full(t)} {
		before := p.Attrs()
		for _, a := range noAttrs {
			modes(t, p, a, api.Fixed, api.ErrArg)
			wants(t, p, a, 1, true, api.ErrArg)
			wants(t, p, a, -1, true, api.ErrArg)
		}
		for _, mode := range noModes {
			modes(t, p, vid(100), mode, api.ErrArg)
			modes(t, p, vid(7), mode, api.ErrArg)
		}
		for _, born := range []int{api.MaxTicks + 1, 1 << 32, math.MaxInt} {
			wants(t, p, vid(100), born, true, api.ErrArg)
			wants(t, p, vid(7), born, true, api.ErrArg)
		}
		keeps(t, p, 0, before...)
	}
	p := full(t)
	m, _ := p.Tick(2)
	for i, w := range m.Words {
		if w != word(vid(100+i), api.EvNew, 1) {
			t.Errorf("%v", w)
		}
	}
	p = New()
	wants(t, p, vid(7), api.MaxTicks, false, api.OK)
	wants(t, p, vid(8), 0, false, api.OK)
	says(t, p, 2, words(word(vid(7), api.EvNew, api.MaxTicks), word(vid(8), api.EvNew, 0)))
}

// TestHearOfWhatCantBe: nothing of such a message is heard, not even what is ahead of its fault.
func TestHearOfWhatCantBe(t *testing.T) {
	good := word(vid(5), api.EvJoinIn, 1)
	for _, m := range []mrpdu.Pdu{
		{All: []int{0}},
		{All: []int{4}},
		{All: []int{-1}},
		{All: []int{1, 1}},
		{All: []int{2, 1}},
		{All: []int{1, 2, 3, 4}},
		{All: []int{1}, Words: []api.Word{good, good}},
		{All: []int{1}, Words: []api.Word{good, word(vid(4), api.EvJoinIn, 1)}},
		{All: []int{1}, Words: []api.Word{good, word(vid(4095), api.EvJoinIn, 1)}},
		{All: []int{1}, Words: []api.Word{good, word(vid(6), 6, 1)}},
		{All: []int{1}, Words: []api.Word{good, word(vid(6), -1, 1)}},
		{All: []int{1}, Words: []api.Word{good, word(vid(6), api.EvJoinIn, -1)}},
		{All: []int{1}, Words: []api.Word{good, word(vid(6), api.EvJoinIn, api.MaxTicks+1)}},
	} {
		p := New()
		wants(t, p, vid(9), 1, false, api.OK)
		p.Tick(2)
		p.Tick(4)
		hears(t, p, words(word(vid(8), api.EvJoinIn, 4)), 4)
		if e := p.Hear(m, 5); e != api.ErrArg {
			t.Fatalf("Hear(%v): %d", m, e)
		}
		keeps(t, p, 0, vid(8), vid(9))
		// It was neither asked for, nor does it leave.
		silent(t, p, 8)
		p.Tick(40)
		has(t, p, vid(8), 40, 4)
		f := full(t)
		if e := f.Hear(m, 5); e != api.ErrArg || f.Fails() != 0 {
			t.Fatalf("Hear(%v): %d, Fails %d", m, e, f.Fails())
		}
	}
}

func TestModes(t *testing.T) {
	p := New()
	for _, a := range []api.Attr{serv(1), group(1), vid(7)} {
		modes(t, p, a, api.Fixed, api.OK)
		has(t, p, a, 9, 9)
		modes(t, p, a, api.Forbidden, api.OK)
		hasNot(t, p, a, 9)
		hears(t, p, words(word(a, api.EvJoinIn, 5)), 9)
		hasNot(t, p, a, 9)
	}
	keeps(t, p, 0, vid(7), group(1), serv(1))
	// What was heard in another mode stays; where nothing was, it isn't kept any more.
	modes(t, p, group(1), api.Normal, api.OK)
	has(t, p, group(1), 9, 5)
	p.Flush(9)
	keeps(t, p, 0, vid(7), serv(1))
	modes(t, p, vid(7), api.Normal, api.OK)
	keeps(t, p, 0, serv(1))
	modes(t, p, vid(9), api.Normal, api.OK)
	keeps(t, p, 0, serv(1))
	// It stays as long as it is to be said.
	wants(t, p, serv(1), 9, false, api.OK)
	modes(t, p, serv(1), api.Normal, api.OK)
	keeps(t, p, 0, serv(1))
}

func TestWantIsTheApplicants(t *testing.T) {
	p := New()
	a, b := vid(3), vid(4)
	wants(t, p, b, 1, false, api.OK)
	wants(t, p, a, 1, true, api.OK)
	if !p.Says(a) || !p.Says(b) || p.Says(vid(5)) || p.Has(a) {
		t.Fatal("Says, Has")
	}
	says(t, p, 2, words(word(a, api.EvNew, 1), word(b, api.EvNew, 1)))
	wants(t, p, a, 3, true, api.OK)
	says(t, p, 4, words(word(a, api.EvJoinIn, 3), word(b, api.EvJoinIn, 1)))
	silent(t, p, 8)
	wants(t, p, a, -1, false, api.OK)
	if p.Says(a) || !p.Says(b) {
		t.Fatal("Says")
	}
	// It is kept till it was told that it leaves.
	keeps(t, p, 0, a, b)
	silent(t, p, 9)
	keeps(t, p, 0, a, b)
	says(t, p, 10, words(word(a, api.EvLv, 3)))
	keeps(t, p, 0, b)
}

// TestWantNoMoreOfNone: of what isn't there nothing is wanted no more, whether there were room for it or not.
func TestWantNoMoreOfNone(t *testing.T) {
	for _, p := range []*Party{New(), full(t)} {
		before := p.Attrs()
		for _, below := range belows {
			wants(t, p, vid(7), below, true, api.OK)
			wants(t, p, vid(7), below, false, api.OK)
		}
		keeps(t, p, 0, before...)
	}
}

// TestWordsOfNone: by which events one comes that isn't there.
func TestWordsOfNone(t *testing.T) {
	for event := api.EvNew; event <= api.EvLv; event++ {
		p := New()
		hears(t, p, words(word(vid(7), event, 4)), 5)
		if slices.Contains(joins, event) {
			has(t, p, vid(7), 5, 4)
			keeps(t, p, 0, vid(7))
		} else {
			hasNot(t, p, vid(7), 5)
			keeps(t, p, 0)
		}
		// Where it is there they are the registrar's.
		q := New()
		hears(t, q, words(word(vid(7), api.EvNew, 3)), 5)
		hears(t, q, words(word(vid(7), event, 4)), 5)
		born := 3
		if slices.Contains(joins, event) {
			born = 4
		}
		has(t, q, vid(7), 5, born)
		q.Tick(29)
		if q.Has(vid(7)) != (event != api.EvLv) {
			t.Errorf("%d: Has %v", event, q.Has(vid(7)))
		}
	}
}

func TestFull(t *testing.T) {
	p := full(t)
	all := p.Attrs()
	if len(all) != 16 {
		t.Fatalf("%d", len(all))
	}
	fails := 0
	for _, a := range []api.Attr{vid(1), vid(200), group(1), serv(0)} {
		for mode := api.Normal; mode <= api.Forbidden; mode++ {
			modes(t, p, a, mode, api.ErrFull)
			fails++
			keeps(t, p, fails, all...)
		}
		wants(t, p, a, 0, true, api.ErrFull)
		fails++
		keeps(t, p, fails, all...)
		for event := api.EvNew; event <= api.EvLv; event++ {
			hears(t, p, words(word(a, event, 1)), 1)
			if slices.Contains(joins, event) {
				fails++
			}
			keeps(t, p, fails, all...)
		}
		hasNot(t, p, a, 1)
	}
	// There is room for what is there.
	modes(t, p, vid(101), api.Fixed, api.OK)
	wants(t, p, vid(102), 1, true, api.OK)
	hears(t, p, words(word(vid(103), api.EvNew, 1)), 1)
	has(t, p, vid(101), 1, 1)
	has(t, p, vid(103), 1, 1)
	keeps(t, p, fails, all...)
	// As soon as one is gone there is room for another one.
	wants(t, p, vid(115), -1, false, api.OK)
	modes(t, p, vid(7), api.Fixed, api.ErrFull)
	p.Tick(2)
	modes(t, p, vid(7), api.Fixed, api.OK)
	keeps(t, p, fails+1, append([]api.Attr{vid(7)}, all[:15]...)...)
}

// TestFullWhileHearing: words come in order, as long as there is room; of those that don't each one counts.
func TestFullWhileHearing(t *testing.T) {
	var m mrpdu.Pdu
	var all []api.Attr
	for i := range 20 {
		all = append(all, vid(10+i))
		m.Words = append(m.Words, word(vid(10+i), api.EvJoinIn, 1))
	}
	p := New()
	hears(t, p, m, 1)
	keeps(t, p, 4, all[:16]...)
	hears(t, p, m, 2)
	keeps(t, p, 8, all[:16]...)
}

// TestRoomTillTheEnd: a word that is too old registers nothing, but takes room till the end of the call.
func TestRoomTillTheEnd(t *testing.T) {
	p := New()
	all := make([]api.Attr, 15)
	for i := range all {
		all[i] = vid(100 + i)
		modes(t, p, all[i], api.Fixed, api.OK)
	}
	old, young := word(vid(5), api.EvJoinIn, 79), word(vid(6), api.EvJoinIn, 80)
	hears(t, p, words(old, young), 200)
	keeps(t, p, 1, all...)
	hears(t, p, words(old), 200)
	keeps(t, p, 1, all...)
	hears(t, p, words(young), 200)
	keeps(t, p, 1, append([]api.Attr{vid(6)}, all...)...)
	has(t, p, vid(6), 200, 80)
	// Where there is no room it fails too, though it would register nothing.
	hears(t, p, words(old), 200)
	keeps(t, p, 2, append([]api.Attr{vid(6)}, all...)...)
}

// TestWhatGoes: what was heard goes as its registrar empties, unless it is to be said, or has another mode.
func TestWhatGoes(t *testing.T) {
	heard, said, fixed, forbidden := vid(1), vid(2), vid(3), vid(4)
	start := func() *Party {
		p := New()
		wants(t, p, said, 1, false, api.OK)
		modes(t, p, fixed, api.Fixed, api.OK)
		modes(t, p, forbidden, api.Forbidden, api.OK)
		for _, a := range []api.Attr{heard, said, fixed, forbidden} {
			hears(t, p, words(word(a, api.EvJoinIn, 1)), 1)
		}
		keeps(t, p, 0, heard, said, fixed, forbidden)
		has(t, p, heard, 1, 1)
		has(t, p, said, 1, 1)
		return p
	}
	p := start()
	p.Flush(2)
	keeps(t, p, 0, said, fixed, forbidden)
	hasNot(t, p, said, 2)
	has(t, p, fixed, 2, 2)
	p = start()
	hears(t, p, words(word(heard, api.EvLv, 1), word(said, api.EvLv, 1)), 3)
	p.Tick(26)
	keeps(t, p, 0, heard, said, fixed, forbidden)
	p.Tick(27)
	keeps(t, p, 0, said, fixed, forbidden)
	hasNot(t, p, said, 27)
	p = start()
	p.Tick(121)
	hears(t, p, words(word(fixed, api.EvJoinIn, 1)), 121)
	has(t, p, heard, 121, 1)
	p.Tick(122)
	keeps(t, p, 0, said, fixed, forbidden)
	hasNot(t, p, said, 122)
}

// TestHearAll: of the types in All alone, and ahead of the words.
func TestHearAll(t *testing.T) {
	all := []api.Attr{vid(1), vid(2), group(1), group(2), serv(0), serv(1)}
	for _, types := range [][]int{nil, {1}, {2}, {3}, {1, 2}, {1, 3}, {2, 3}, {1, 2, 3}} {
		p := New()
		for _, a := range all {
			wants(t, p, a, 1, false, api.OK)
			hears(t, p, words(word(a, api.EvJoinIn, 1)), 1)
		}
		p.Tick(2)
		p.Tick(4)
		hears(t, p, mrpdu.Pdu{All: types, Words: []api.Word{word(vid(2), api.EvJoinIn, 5), word(group(2), api.EvJoinMt, 5), word(serv(1), api.EvNew, 5)}}, 5)
		var asked mrpdu.Pdu
		for _, a := range all {
			if slices.Contains(types, a.Type) {
				asked.Words = append(asked.Words, word(a, api.EvJoinIn, 1))
			}
		}
		if len(types) > 0 {
			says(t, p, 8, asked)
		} else {
			silent(t, p, 8)
		}
		p.Tick(28)
		for _, a := range all {
			if !p.Has(a) {
				t.Errorf("%v: %v has gone too early", types, a)
			}
		}
		p.Tick(29)
		for i, a := range all {
			if p.Has(a) != (i%2 == 1 || !slices.Contains(types, a.Type)) {
				t.Errorf("%v: %v: Has %v", types, a, p.Has(a))
			}
		}
	}
}

// TestTicks: something is said at each even tick alone, and again at each sixth one.
func TestTicks(t *testing.T) {
	p := New()
	wants(t, p, vid(7), 0, false, api.OK)
	for now := range 60 {
		switch {
		case now == 0:
			says(t, p, now, words(word(vid(7), api.EvNew, 0)))
		case now == 2 || now%6 == 0:
			says(t, p, now, words(word(vid(7), api.EvJoinIn, 0)))
		default:
			silent(t, p, now)
		}
	}
	// By the clock, not by how much time went on.
	p = New()
	wants(t, p, vid(7), 0, false, api.OK)
	p.Tick(2)
	p.Tick(4)
	silent(t, p, 5)
	silent(t, p, 8)
	silent(t, p, 17)
	silent(t, p, 20)
	says(t, p, 24, words(word(vid(7), api.EvJoinIn, 0)))
	says(t, p, 24, words(word(vid(7), api.EvJoinIn, 0)))
	silent(t, p, 26)
}

// asked answers the ticks up to an end at which a part asks for all, if it is told of each one.
func asked(t *testing.T, p *Party, end int) []int {
	t.Helper()
	var list []int
	for now := range end + 1 {
		m, any := p.Tick(now)
		if len(m.All) > 0 {
			if !any || !slices.Equal(m.All, []int{api.AttrVid}) {
				t.Fatalf("Tick(%d): %v, %v", now, m, any)
			}
			list = append(list, now)
		}
	}
	return list
}

// TestAskedFor: all is asked for by the draws, one behind the other; what is due at an odd tick is said at the next one.
func TestAskedFor(t *testing.T) {
	for _, row := range []struct {
		draws []int
		ticks []int
	}{
		{nil, []int{60, 120, 180, 240, 300}},
		{[]int{0}, []int{60, 120, 180, 240, 300}},
		{[]int{31}, []int{60, 120, 180, 240, 300}},
		{[]int{5}, []int{66, 130, 196, 260}},
		{[]int{30}, []int{90, 180, 270}},
		{[]int{30, 0, 7}, []int{90, 150, 218}},
		{[]int{30, 0, 8, 1}, []int{90, 150, 218, 280}},
		{[]int{1, 2}, []int{62, 124, 184, 246}},
		// As a number without a sign -1 is 2^64 - 1, and 15 of 31.
		{[]int{-1}, []int{76, 150, 226, 300}},
	} {
		if list := asked(t, New(row.draws...), 300); !slices.Equal(list, row.ticks) {
			t.Errorf("%v: %v, not %v", row.draws, list, row.ticks)
		}
	}
}

// TestDrawsArentKept: what is written into the list behind the call isn't seen.
func TestDrawsArentKept(t *testing.T) {
	draws := []int{30, 30, 30}
	p := New(draws...)
	clear(draws)
	if list := asked(t, p, 300); !slices.Equal(list, []int{90, 180, 270}) {
		t.Errorf("%v", list)
	}
}

// TestAskedForLate: where ticks are passed over it is asked for once, and the next time lies behind that.
func TestAskedForLate(t *testing.T) {
	p := New()
	silent(t, p, 59)
	says(t, p, 200, mrpdu.Pdu{All: []int{1}})
	silent(t, p, 202)
	silent(t, p, 258)
	silent(t, p, 259)
	silent(t, p, 261)
	says(t, p, 264, mrpdu.Pdu{All: []int{1}})
	silent(t, p, 266)
	silent(t, p, 320)
	says(t, p, 322, mrpdu.Pdu{All: []int{1}})
}

// TestAskedAsIfHeard: who asks for all holds less firmly what it has, and says once more what it is to say.
func TestAskedAsIfHeard(t *testing.T) {
	p := New(1)
	all := []api.Attr{vid(9), group(1), serv(1)}
	for _, a := range all {
		hears(t, p, words(word(a, api.EvJoinIn, 50)), 50)
	}
	wants(t, p, group(2), 50, false, api.OK)
	for now := 50; now <= 60; now++ {
		p.Tick(now)
	}
	silent(t, p, 61)
	says(t, p, 62, mrpdu.Pdu{All: []int{1, 2, 3}, Words: []api.Word{word(group(2), api.EvJoinIn, 50)}})
	silent(t, p, 64)
	p.Tick(84)
	keeps(t, p, 0, vid(9), group(1), group(2), serv(1))
	p.Tick(85)
	keeps(t, p, 0, group(2))
}

// TestTypesThatThereAre: those of what is kept, and that of networks.
func TestTypesThatThereAre(t *testing.T) {
	for _, row := range []struct {
		attrs []api.Attr
		types []int
	}{
		{nil, []int{1}},
		{[]api.Attr{vid(7), vid(8)}, []int{1}},
		{[]api.Attr{group(7), group(8)}, []int{1, 2}},
		{[]api.Attr{serv(0), serv(1)}, []int{1, 3}},
		{[]api.Attr{vid(7), serv(1)}, []int{1, 3}},
		{[]api.Attr{group(7), serv(0), serv(1)}, []int{1, 2, 3}},
		{[]api.Attr{vid(7), group(7), group(8), serv(0)}, []int{1, 2, 3}},
	} {
		p := New()
		for _, a := range row.attrs {
			modes(t, p, a, api.Forbidden, api.OK)
		}
		says(t, p, 60, mrpdu.Pdu{All: row.types})
	}
}

// TestTypesAsItIsSaid: between the odd tick at which all is due and the next one types may come, and go.
func TestTypesAsItIsSaid(t *testing.T) {
	p := New(1)
	modes(t, p, group(1), api.Fixed, api.OK)
	silent(t, p, 61)
	modes(t, p, group(1), api.Normal, api.OK)
	modes(t, p, serv(1), api.Fixed, api.OK)
	says(t, p, 62, mrpdu.Pdu{All: []int{1, 3}})
}

// TestTypesTillTheEnd: what goes at a tick is there till all was said then.
func TestTypesTillTheEnd(t *testing.T) {
	p := New()
	hears(t, p, words(word(group(1), api.EvJoinIn, 30), word(serv(1), api.EvJoinIn, 30)), 30)
	hears(t, p, words(word(group(1), api.EvLv, 30)), 36)
	wants(t, p, serv(0), 30, false, api.OK)
	wants(t, p, serv(0), -1, false, api.OK)
	p.Tick(59)
	keeps(t, p, 0, group(1), serv(0), serv(1))
	says(t, p, 60, mrpdu.Pdu{All: []int{1, 2, 3}, Words: []api.Word{word(serv(0), api.EvLv, 30)}})
	keeps(t, p, 0, serv(1))
}

// TestLists: what is handed in isn't changed, nor kept, spare room included; what is answered is new memory.
func TestLists(t *testing.T) {
	p := New()
	all := []int{1, 2, 3}
	list := []api.Word{word(vid(5), api.EvJoinIn, 1), word(vid(6), api.EvJoinIn, 1), word(vid(7), api.EvJoinIn, 1)}
	hears(t, p, mrpdu.Pdu{All: all[:1], Words: list[:2]}, 1)
	if !slices.Equal(all, []int{1, 2, 3}) || list[2] != word(vid(7), api.EvJoinIn, 1) || list[0] != word(vid(5), api.EvJoinIn, 1) {
		t.Errorf("%v, %v", all, list)
	}
	clear(all)
	clear(list)
	keeps(t, p, 0, vid(5), vid(6))
	clear(p.Attrs())
	keeps(t, p, 0, vid(5), vid(6))
	wants(t, p, vid(6), 1, false, api.OK)
	m, _ := p.Tick(60)
	first := mrpdu.Pdu{All: slices.Clone(m.All), Words: slices.Clone(m.Words)}
	p.Tick(62)
	hears(t, p, mrpdu.Pdu{All: []int{1}}, 63)
	p.Tick(64)
	p.Tick(120)
	if !equal(m, first) || !equal(m, mrpdu.Pdu{All: []int{1}, Words: []api.Word{word(vid(6), api.EvNew, 1)}}) {
		t.Errorf("%v", m)
	}
	clear(m.All)
	clear(m.Words)
	keeps(t, p, 0, vid(6))
	says(t, p, 180, mrpdu.Pdu{All: []int{1}, Words: []api.Word{word(vid(6), api.EvJoinIn, 1)}})
}

// TestTwoKnowNothing: what one keeps the other one doesn't, nor does it draw by it.
func TestTwoKnowNothing(t *testing.T) {
	p, q := New(1, 2), New(1, 2)
	modes(t, p, vid(5), api.Fixed, api.OK)
	wants(t, p, vid(6), 1, false, api.OK)
	asked(t, p, 300)
	keeps(t, q, 0)
	if list := asked(t, q, 246); !slices.Equal(list, []int{62, 124, 184, 246}) {
		t.Errorf("%v", list)
	}
}

// TestFar: at ticks of all kinds, in every order, each call ends.
func TestFar(t *testing.T) {
	far := []int{math.MinInt, math.MinInt + 1, -1 << 32, -121, -60, -2, -1, 0, 1, 60, 1 << 20, 1 << 32, math.MaxInt - 60, math.MaxInt - 1, math.MaxInt}
	d := rand.New(rand.NewSource(16))
	p := New(far...)
	for range 20000 {
		a, now := vid(1+d.Intn(20)), far[d.Intn(len(far))]
		switch d.Intn(6) {
		case 0:
			p.Mode(a, d.Intn(3))
		case 1:
			p.Want(a, far[d.Intn(len(far))], now > 0)
		case 2:
			p.Hear(mrpdu.Pdu{All: []int{1}, Words: []api.Word{word(a, d.Intn(6), d.Intn(200))}}, now)
		case 3:
			p.Flush(now)
		default:
			if m, _ := p.Tick(now); !mrpdu.Good(m) {
				t.Fatalf("%v", m)
			}
		}
		if p.Has(a) != (p.Born(a, now) != -1) && now != -1 || len(p.Attrs()) > api.MaxAttrs {
			t.Fatalf("%v at %d: Has %v, Born %d, Attrs %v", a, now, p.Has(a), p.Born(a, now), p.Attrs())
		}
	}
}
