package party

import (
	"math/rand"
	"testing"

	"kissgate/api"
	"kissgate/mrpdu"
)

// side is one of two ports that hear one another: its part, and, of each attribute, since when it is to be said, and isn't.
type side struct {
	part  *Party
	since []int // -1: it isn't to be said
	ended []int // -1: it is to be said, or was never
}

func newSide(n int, draws ...int) *side {
	s := &side{part: New(draws...), since: make([]int, n), ended: make([]int, n)}
	for i := range n {
		s.since[i], s.ended[i] = -1, -1
	}
	return s
}

// turn: an attribute is to be said from now on, or no more.
func (s *side) turn(i, now int) {
	if s.since[i] < 0 {
		s.since[i], s.ended[i] = now, -1
	} else {
		s.since[i], s.ended[i] = -1, now
	}
}

// wants: what is to be said is wanted as of now, as stations want it.
func (s *side) wants(t *testing.T, attrs []api.Attr, now int, new bool) {
	t.Helper()
	for i, a := range attrs {
		born := now
		if s.since[i] < 0 {
			born = -1
		}
		wants(t, s.part, a, born, new, api.OK)
	}
}

// tell: the one's tick, and the other one hears it at once.
func (s *side) tell(t *testing.T, other *side, now int) {
	t.Helper()
	if m, any := s.part.Tick(now); any {
		hears(t, other.part, m, now)
	}
}

// counts are how often it was held that what is said is there, and that what has ended isn't.
type counts struct{ there, gone int }

// held fails unless the other one has what it must have of this one, and has no more what it must not.
func (s *side) held(t *testing.T, other *side, attrs []api.Attr, now int, n *counts) {
	t.Helper()
	for i, a := range attrs {
		since, ended := s.since[i], s.ended[i]
		switch {
		case since >= 0 && now >= since+since%api.Join:
			n.there++
			if !other.part.Has(a) {
				t.Fatalf("at %d: the other one hasn't %v, which is said since %d", now, a, since)
			}
		case ended >= 0 && now >= ended+api.Leave+2:
			n.gone++
			if other.part.Has(a) {
				t.Fatalf("at %d: the other one has %v, which ended at %d", now, a, ended)
			}
		}
	}
}

// TestTwoThatHear: whichever of them ticks first, and whoever asks for all, besides them too.
func TestTwoThatHear(t *testing.T) {
	d := rand.New(rand.NewSource(162))
	attrs := pool(api.MaxAttrs)[:api.MaxAttrs]
	var n counts
	for round := range 60 {
		x, y := newSide(len(attrs), d.Intn(99), d.Intn(99)), newSide(len(attrs), d.Intn(99))
		for now := range 700 {
			if now < 600 && d.Intn(3) == 0 {
				[]*side{x, y}[d.Intn(2)].turn(d.Intn(len(attrs)), now)
			}
			x.wants(t, attrs, now, d.Intn(2) == 0)
			y.wants(t, attrs, now, d.Intn(2) == 0)
			first, second := x, y
			if round%3 == 1 || round%3 == 2 && d.Intn(2) == 0 {
				first, second = y, x
			}
			first.tell(t, second, now)
			second.tell(t, first, now)
			if d.Intn(30) == 0 {
				hears(t, []*side{x, y}[d.Intn(2)].part, mrpdu.Pdu{All: []int{1, 2, 3}}, now)
			}
			x.held(t, y, attrs, now, &n)
			y.held(t, x, attrs, now, &n)
		}
		if x.part.Fails()+y.part.Fails() > 0 {
			t.Fatal("there was room for all")
		}
	}
	if min(n.there, n.gone) < 10000 {
		t.Errorf("too few: %+v", n)
	}
}

// TestOneThatEnds: the other one has it until Leave ticks are over, and no longer.
func TestOneThatEnds(t *testing.T) {
	for ended := 10; ended < 22; ended++ {
		x, y := newSide(1), newSide(1)
		for now := range 60 {
			if now == 3 || now == ended {
				x.turn(0, now)
			}
			x.wants(t, []api.Attr{vid(7)}, now, false)
			x.tell(t, y, now)
			y.tell(t, x, now)
			if said := ended + ended%2; y.part.Has(vid(7)) != (now >= 4 && now < said+api.Leave) {
				t.Fatalf("ended at %d: at %d: Has %v", ended, now, y.part.Has(vid(7)))
			}
		}
	}
}

// TestTheOldestWords: one that isn't wanted anew ends as it is too old, though it is to be said.
func TestTheOldestWords(t *testing.T) {
	x, y := New(), New()
	wants(t, x, vid(7), 5, false, api.OK)
	for now := 6; now < 300; now++ {
		if m, any := x.Tick(now); any {
			hears(t, y, m, now)
		}
		y.Tick(now)
		if y.Has(vid(7)) != (now <= 125) || !x.Says(vid(7)) {
			t.Fatalf("at %d: Has %v", now, y.Has(vid(7)))
		}
	}
}
