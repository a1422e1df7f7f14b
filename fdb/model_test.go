package fdb

import (
	"cmp"
	"math/rand"
	"slices"
	"testing"

	"kissgate/api"
)

// who is of whom a place is.
type who struct{ vid, mac int }

// model is a table that is told of by a map, and gone over as a whole each time.
type model struct {
	places map[who]Place
	fails  int
}

func (m *model) all() []Place {
	var list []Place
	for _, p := range m.places {
		list = append(list, p)
	}
	slices.SortFunc(list, func(a, b Place) int { return cmp.Or(a.Vid-b.Vid, a.Mac-b.Mac) })
	return list
}

func (m *model) find(w who) int {
	if p, there := m.places[w]; there {
		return p.Port
	}
	return -1
}

func (m *model) learn(w who, port, now int) api.Errno {
	if m.places[w].Static && 0 <= port && port <= 5 {
		return api.OK
	}
	return m.put(w, Place{Vid: w.vid, Mac: w.mac, Port: port, Seen: now})
}

func (m *model) fix(w who, port int) api.Errno {
	return m.put(w, Place{Vid: w.vid, Mac: w.mac, Port: port, Static: true})
}

func (m *model) put(w who, p Place) api.Errno {
	if w.vid < 1 || w.vid > 4094 || w.mac < 0 || w.mac >= 1<<48 || w.mac>>40&1 != 0 || p.Port < 0 || p.Port > 5 {
		return api.ErrArg
	}
	if _, there := m.places[w]; !there && len(m.places) == 24 {
		list := slices.DeleteFunc(m.all(), func(p Place) bool { return p.Static })
		if len(list) == 0 {
			m.fails++
			return api.ErrFull
		}
		slices.SortStableFunc(list, func(a, b Place) int { return cmp.Compare(a.Seen, b.Seen) })
		delete(m.places, who{list[0].Vid, list[0].Mac})
	}
	m.places[w] = p
	return api.OK
}

func (m *model) drop(w who) api.Errno {
	if _, there := m.places[w]; !there {
		return api.ErrNone
	}
	delete(m.places, w)
	return api.OK
}

// lose: what is such a place goes, but what somebody said.
func (m *model) lose(such func(Place) bool) {
	for w, p := range m.places {
		if !p.Static && such(p) {
			delete(m.places, w)
		}
	}
}

// drawWho draws an address of a network; now and then one that can't be.
func drawWho(d *rand.Rand) who {
	if d.Intn(40) == 0 {
		return who{[]int{0, 1, 4095}[d.Intn(3)], []int{-1, 1 << 40, 1 << 48}[d.Intn(3)]}
	}
	return who{d.Intn(3) + 1, d.Intn(14)}
}

// step: one drawn call of both, which must answer the same.
func step(t *testing.T, d *rand.Rand, x *Table, m *model, now, fixed int) {
	t.Helper()
	w, port := drawWho(d), d.Intn(6)
	if d.Intn(40) == 0 {
		port = []int{-1, 6}[d.Intn(2)]
	}
	switch n := d.Intn(100); {
	case n < fixed:
		fixes(t, x, w.vid, w.mac, port, m.fix(w, port))
	case n < 85:
		learns(t, x, w.vid, w.mac, port, now, m.learn(w, port, now))
	case n < 92:
		drops(t, x, w.vid, w.mac, m.drop(w))
	case n < 97:
		x.Age(now)
		m.lose(func(p Place) bool { return p.Seen < now-60 })
	case n < 99:
		x.Flush(port)
		m.lose(func(p Place) bool { return port == -1 || p.Port == port })
	default:
		x.Flush(-1 - d.Intn(3))
		m.lose(func(Place) bool { return true })
	}
	at(t, x, w.vid, w.mac, m.find(w))
}

// TestDrawn: drawn calls, at ticks that go on and back, against the model; ever more of them say what is static.
func TestDrawn(t *testing.T) {
	d := rand.New(rand.NewSource(18))
	most, failed := 0, 0
	for round := range 400 {
		x, m := New(), &model{places: map[who]Place{}}
		now := d.Intn(400) - 200
		for range 300 {
			now += d.Intn(9) - 2
			step(t, d, x, m, now, round/5)
			holds(t, x, m.all()...)
			fails(t, x, m.fails)
			most = max(most, len(x.All()))
		}
		failed += m.fails
	}
	if most != 24 || failed < 1000 {
		t.Errorf("too little: %d places, %d times no room", most, failed)
	}
}
