package party

import (
	"math/rand"
	"slices"
	"testing"

	"kissgate/api"
	"kissgate/mrpdu"
)

// thing is an attribute told of without tables: what was heard of it, and what is still owed of it.
type thing struct {
	mode         int
	held, leaves bool // whether somebody said it; whether it goes at end unless it is said again
	first, end   int  // when it was said first

	word                 int
	speaks, fresh, parts bool // whether it is to be said; whether as new, at first; whether it is to be left
	owes                 int  // how often it is to be said by now
}

func (g *thing) has() bool { return g.mode == api.Fixed || g.mode == api.Normal && g.held }

func (g *thing) idle() bool { return g.mode == api.Normal && !g.held && !g.speaks && !g.parts }

func (g *thing) since(now int) int {
	switch {
	case g.mode == api.Fixed:
		return now
	case g.has():
		return g.first
	}
	return -1
}

// asked: somebody wants to hear of it.
func (g *thing) asked(now int) {
	if g.held && !g.leaves {
		g.leaves, g.end = true, now+24
	}
	g.again()
}

func (g *thing) again() {
	if g.speaks && g.owes == 0 {
		g.owes = 1
	}
}

func (g *thing) heard(event, born, now int) {
	switch event {
	case api.EvNew, api.EvJoinIn, api.EvJoinMt:
		born = min(born, now)
		if now-born > 120 {
			return
		}
		if !g.held || born > g.first {
			g.first = born
		}
		g.held, g.leaves = true, false
	case api.EvLv:
		if g.held && !g.leaves {
			g.leaves, g.end = true, now+24
		}
	}
}

func (g *thing) grows(now int) {
	if g.held && (g.leaves && now >= g.end || now-g.first > 120) {
		g.held, g.leaves = false, false
	}
}

func (g *thing) wanted(born int, new bool) {
	switch {
	case born < 0:
		g.parts = g.parts || g.speaks
		g.speaks, g.fresh, g.owes = false, false, 0
		return
	case !g.speaks && (new || !g.parts):
		g.owes, g.fresh = 2, true
	case !g.speaks:
		g.owes = 1
	}
	g.word, g.speaks, g.parts = born, true, false
}

// said answers what is said of it by now, and whether that is anything.
func (g *thing) said() (int, bool) {
	switch {
	case g.parts:
		g.parts = false
		return api.EvLv, true
	case g.owes == 0:
		return 0, false
	}
	g.owes--
	if g.fresh {
		g.fresh = false
		return api.EvNew, true
	}
	return api.EvJoinIn, true
}

// model is a port's part, told of by its things.
type model struct {
	things map[api.Attr]*thing
	draws  []int
	drawn  int
	due    int
	asks   bool
	fails  int
}

func newModel(draws ...int) *model {
	m := &model{things: map[api.Attr]*thing{}, draws: draws}
	m.due = m.wait()
	return m
}

// wait answers how many ticks lie between two times at which all is asked for, by the next draw.
func (m *model) wait() int {
	if len(m.draws) == 0 {
		return 60
	}
	n := m.draws[m.drawn%len(m.draws)]
	m.drawn++
	return 60 + n%31
}

func (m *model) attrs() []api.Attr {
	var list []api.Attr
	for a := range m.things {
		list = append(list, a)
	}
	slices.SortFunc(list, mrpdu.Compare)
	return list
}

// room answers an attribute's thing, which comes if need be; nil: there is no room.
func (m *model) room(a api.Attr) *thing {
	if m.things[a] == nil && len(m.things) == 16 {
		m.fails++
		return nil
	}
	if m.things[a] == nil {
		m.things[a] = &thing{}
	}
	return m.things[a]
}

func (m *model) sweep() {
	for a, g := range m.things {
		if g.idle() {
			delete(m.things, a)
		}
	}
}

func (m *model) mode(a api.Attr, mode int) api.Errno {
	if !mrpdu.Attr(a) || mode < 0 || mode > 2 {
		return api.ErrArg
	}
	g := m.room(a)
	if g == nil {
		return api.ErrFull
	}
	g.mode = mode
	m.sweep()
	return api.OK
}

func (m *model) want(a api.Attr, born int, new bool) api.Errno {
	if !mrpdu.Attr(a) || born > 1<<20 {
		return api.ErrArg
	}
	if born < 0 && m.things[a] == nil {
		return api.OK
	}
	g := m.room(a)
	if g == nil {
		return api.ErrFull
	}
	g.wanted(born, new)
	return api.OK
}

func (m *model) hear(p mrpdu.Pdu, now int) api.Errno {
	if !mrpdu.Good(p) {
		return api.ErrArg
	}
	for a, g := range m.things {
		if slices.Contains(p.All, a.Type) {
			g.asked(now)
		}
	}
	for _, w := range p.Words {
		g := m.things[w.Attr]
		if slices.Contains(joins, w.Event) {
			g = m.room(w.Attr)
		}
		if g != nil {
			g.heard(w.Event, w.Born, now)
		}
	}
	m.sweep()
	return api.OK
}

func (m *model) tick(now int) mrpdu.Pdu {
	var p mrpdu.Pdu
	for _, g := range m.things {
		g.grows(now)
		if now%6 == 0 {
			g.again()
		}
	}
	if now >= m.due {
		for _, g := range m.things {
			g.asked(now)
		}
		m.asks = true
		m.due = now + m.wait()
	}
	if now%2 == 0 {
		p = m.say()
	}
	m.sweep()
	return p
}

func (m *model) say() mrpdu.Pdu {
	var p mrpdu.Pdu
	if m.asks {
		p.All = []int{1}
		for _, a := range m.attrs() {
			if !slices.Contains(p.All, a.Type) {
				p.All = append(p.All, a.Type)
			}
		}
		m.asks = false
	}
	for _, a := range m.attrs() {
		if event, any := m.things[a].said(); any {
			p.Words = append(p.Words, api.Word{Attr: a, Event: event, Born: m.things[a].word})
		}
	}
	return p
}

func (m *model) flush() {
	for _, g := range m.things {
		g.held, g.leaves = false, false
	}
	m.sweep()
}

// pool is attributes, of which n at each drawing are in use, and the last ones can't be.
func pool(n int) []api.Attr {
	var list []api.Attr
	for i := range n {
		switch {
		case i < 2:
			list = append(list, serv(i))
		case i%3 == 0:
			list = append(list, group(i))
		default:
			list = append(list, vid(i))
		}
	}
	return append(list, vid(0), group(-1))
}

// drawPdu draws a message of some words of a pool; seldom one that can't be.
func drawPdu(d *rand.Rand, pool []api.Attr, now int) mrpdu.Pdu {
	var p mrpdu.Pdu
	for kind := 1; kind <= 3; kind++ {
		if d.Intn(12) == 0 {
			p.All = append(p.All, kind)
		}
	}
	good := slices.Clone(pool[:len(pool)-2])
	slices.SortFunc(good, mrpdu.Compare)
	for _, a := range good {
		if d.Intn(len(good)) < 4 {
			p.Words = append(p.Words, api.Word{Attr: a, Event: d.Intn(6), Born: drawBorn(d, now)})
		}
	}
	if n := len(p.Words); n > 1 && d.Intn(30) == 0 {
		p.Words[0] = p.Words[n-1]
	}
	return p
}

// drawBorn draws a tick at which something was said first: just ahead of now, at the edge of what is too old, or far off.
func drawBorn(d *rand.Rand, now int) int {
	switch d.Intn(8) {
	case 0:
		return max(now-119-d.Intn(4), 0)
	case 1:
		return min(now+d.Intn(30), api.MaxTicks)
	}
	return max(now-d.Intn(8), 0)
}

// alike fails unless a port's part is as its model.
func alike(t *testing.T, p *Party, m *model, pool []api.Attr, now int) {
	t.Helper()
	keeps(t, p, m.fails, m.attrs()...)
	for _, a := range pool {
		g := m.things[a]
		if g == nil {
			g = &thing{}
		}
		if p.Has(a) != g.has() || p.Born(a, now) != g.since(now) || p.Says(a) != g.speaks {
			t.Fatalf("%v at %d: Has %v, Born %d, Says %v, not %v, %d, %v", a, now, p.Has(a), p.Born(a, now), p.Says(a), g.has(), g.since(now), g.speaks)
		}
	}
}

// seen counts what came about.
type seen struct{ alls, words, leaves, fails, errors, registered int }

func (s *seen) message(p mrpdu.Pdu) {
	s.alls += len(p.All)
	s.words += len(p.Words)
	for _, w := range p.Words {
		if w.Event == api.EvLv {
			s.leaves++
		}
	}
}

func (s *seen) error(e api.Errno) {
	if e != api.OK {
		s.errors++
	}
}

// TestDrawn: all calls, while ticks go on, against the model.
func TestDrawn(t *testing.T) {
	d := rand.New(rand.NewSource(161))
	var s seen
	for round := range 300 {
		all := pool(4 + round%24)
		draws := make([]int, round%4)
		for i := range draws {
			draws[i] = d.Intn(1000)
		}
		p, m := New(draws...), newModel(draws...)
		for now, step := 0, 0; step < 600; step++ {
			a := all[d.Intn(len(all))]
			switch d.Intn(16) {
			case 0:
				mode := d.Intn(5) - 1
				e := m.mode(a, mode)
				modes(t, p, a, mode, e)
				s.error(e)
			case 1, 2:
				born, new := drawBorn(d, now), d.Intn(2) == 0
				if d.Intn(40) == 0 {
					born = api.MaxTicks + 1
				}
				e := m.want(a, born, new)
				wants(t, p, a, born, new, e)
				s.error(e)
			case 3, 4:
				wants(t, p, a, -1-d.Intn(3), true, m.want(a, -1, true))
			case 5, 6:
				h := drawPdu(d, all, now)
				e := m.hear(h, now)
				if got := p.Hear(h, now); got != e {
					t.Fatalf("Hear(%v, %d): %d, not %d", h, now, got, e)
				}
				s.error(e)
			case 7:
				if d.Intn(20) == 0 {
					p.Flush(now)
					m.flush()
				}
			default:
				now += drawSteps(d)
				want := m.tick(now)
				got, any := p.Tick(now)
				if !equal(got, want) || any != (len(want.All)+len(want.Words) > 0) || !mrpdu.Good(got) {
					t.Fatalf("Tick(%d): %v, %v, not %v", now, got, any, want)
				}
				s.message(got)
			}
			alike(t, p, m, all, now)
			for _, a := range all {
				if p.Has(a) {
					s.registered++
				}
			}
		}
		s.fails += p.Fails()
	}
	if min(s.alls, s.words, s.leaves, s.fails, s.errors, s.registered) < 1000 {
		t.Errorf("too few: %+v", s)
	}
}

// drawSteps draws by how many ticks time goes on: mostly by one, at times by none, or by many.
func drawSteps(d *rand.Rand) int {
	switch d.Intn(40) {
	case 0:
		return 0
	case 1:
		return d.Intn(40)
	case 2, 3, 4:
		return 2
	}
	return 1
}
