package bridge

import (
	"testing"

	"kissgate/addr"
	"kissgate/api"
	"kissgate/mrpdu"
)

// ring is three bridges: the port 0 of each leads to the next one's port 1, the port 2 to somebody who listens.
type ring struct {
	t     *testing.T
	list  [3]*Bridge
	now   int
	way   []Out // what comes at the next tick: the port 3 * i + k is the port k of the bridge i
	heard [3]int
}

func newRing(t *testing.T) *ring {
	r := &ring{t: t}
	for i := range r.list {
		r.list[i] = New(8, own+i, 3, 7*i)
		for k := range 3 {
			is(t, "Link", r.list[i].Link(k, true, 1000, 0), api.OK)
		}
	}
	return r
}

// sends lets what goes out of a bridge be on its way, or be heard by who listens there.
func (r *ring) sends(i int, out []Out) {
	for _, o := range out {
		switch o.Port {
		case 0:
			r.way = append(r.way, Out{3*((i+1)%3) + 1, o.Frame})
		case 1:
			r.way = append(r.way, Out{3 * ((i + 2) % 3), o.Frame})
		case 2:
			r.heard[i] += one(o.Frame.Type == addr.TypeData)
		}
	}
}

// ticks lets time go on. At each Join-th tick somebody says 7 at the port 2 of the first bridges.
func (r *ring) ticks(n, sayers int) {
	for range n {
		r.now++
		came := r.way
		r.way = nil
		for _, o := range came {
			r.sends(o.Port/3, r.list[o.Port/3].In(o.Port%3, o.Frame, r.now))
		}
		for i, b := range r.list {
			if i < sayers && r.now%api.Join == 0 {
				r.sends(i, b.In(2, joins(r.t, r.now, vid(7)), r.now))
			}
			r.sends(i, b.Tick(r.now))
		}
	}
}

// has fails unless, of the ports that forward, 7 is registered at just these.
func (r *ring) has(want ...int) {
	r.t.Helper()
	var at []int
	for i, b := range r.list {
		for k := range 3 {
			if b.Party(k).Has(vid(7)) && b.Tree().State(k, r.now) == api.Forwarding {
				at = append(at, 3*i+k)
			}
		}
	}
	are(r.t, "has 7", at, want)
}

// asks sends a frame of 7 to all by the port 2 of a bridge, and fails unless it is heard just so often.
func (r *ring) asks(i, src int, want ...int) {
	r.t.Helper()
	r.heard = [3]int{}
	r.sends(i, r.list[i].In(2, data(addr.All, src, 7), r.now))
	r.ticks(6, 0)
	are(r.t, "heard", r.heard[:], want)
}

// TestRing: three bridges in a ring: one link isn't open, between the second one and the third; what is said at one is registered at the ports that forward and lead there, and no others that do; frames come there once; when it is said no more nobody has it.
func TestRing(t *testing.T) {
	r := newRing(t)
	r.ticks(60, 0)
	for i, b := range r.list {
		is(t, "Root", b.Tree().Best().Root, r.list[0].Tree().Id())
		for k := range 3 {
			want := api.Forwarding
			if i == 2 && k == 1 {
				want = api.Discarding
			}
			is(t, "State", b.Tree().State(k, r.now), want)
		}
	}
	r.asks(2, 99, 0, 0, 0)
	r.ticks(20, 1)
	r.has(2, 4, 6)
	r.asks(2, 99, 1, 0, 0)
	r.asks(1, 98, 1, 0, 0)
	r.asks(0, 97, 0, 0, 0)
	r.ticks(20, 3)
	r.has(0, 1, 2, 4, 5, 6, 8)
	r.asks(2, 99, 1, 1, 0)
	r.heard = [3]int{}
	r.sends(1, r.list[1].In(2, data(99, 98, 7), r.now))
	r.ticks(6, 3)
	are(t, "to one", r.heard[:], []int{0, 0, 1})
	f := attrFrame(t, 5, mrpdu.Pdu{Words: []api.Word{word(vid(7), api.EvLv, r.now)}})
	for i, b := range r.list {
		r.sends(i, b.In(2, f, r.now))
	}
	r.ticks(5*api.Leave, 0)
	r.has()
	for _, b := range r.list {
		is(t, "Bad", b.Bad(), 0)
	}
}

// TestRingCut: a link goes, and another one opens; the words follow, and what was seen there is forgotten.
func TestRingCut(t *testing.T) {
	r := newRing(t)
	r.ticks(60, 1)
	r.has(2, 4, 6)
	r.asks(2, 99, 1, 0, 0)
	is(t, "Find", r.list[0].Table().Find(7, 99), 1)
	r.list[0].Link(1, false, 1000, r.now)
	r.list[2].Link(0, false, 1000, r.now)
	r.ticks(60, 1)
	r.has(2, 4, 7)
	r.asks(2, 99, 1, 0, 0)
	is(t, "Find", r.list[0].Table().Find(7, 99), 0)
}
