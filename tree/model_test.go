package tree

import (
	"math"
	"math/rand"
	"slices"
	"testing"

	"kissgate/api"
)

// model is a bridge's part as the chapter tells of it: what is known of the ports, and all ticks at which something changed.
type model struct {
	id      int
	ports   []modelPort
	best    api.Vector
	root    int
	changes []int
}

type modelPort struct {
	up       bool
	cost     int
	heard    []api.Bpdu // the last one counts
	at       int
	role     int
	since    int
	forwards bool
}

func parts(x api.Vector) []int { return []int{x.Root, x.Cost, x.Bridge, x.Port} }

func worse(a, b api.Vector) bool { return slices.Compare(parts(a), parts(b)) > 0 }

// useful answers whether what was heard at a port is of use; all names that the drawn messages bear are bridges'.
func (m *model) useful(i int) bool {
	p := m.ports[i]
	if !p.up || len(p.heard) == 0 {
		return false
	}
	last := p.heard[len(p.heard)-1]
	return last.Age < 10 && last.Vector.Bridge != m.id
}

func (m *model) last(i int) api.Bpdu { return m.ports[i].heard[len(m.ports[i].heard)-1] }

func (m *model) anew(now int) {
	m.best, m.root = v(m.id, 0, m.id, 0), -1
	for i, p := range m.ports {
		if !m.useful(i) || m.last(i).Vector.Root >= m.id {
			continue
		}
		through := m.last(i).Vector
		through.Cost += p.cost
		if worse(m.best, through) {
			m.best, m.root = through, i
		}
	}
	for i := range m.ports {
		if r := m.role(i); r != m.ports[i].role {
			m.ports[i].role, m.ports[i].since = r, now
		}
	}
}

func (m *model) role(i int) int {
	switch {
	case !m.ports[i].up:
		return 0
	case i == m.root:
		return 1
	case !m.useful(i) || worse(m.last(i).Vector, v(m.best.Root, m.best.Cost, m.id, i)):
		return 2
	}
	return 3
}

func (m *model) state(i, now int) int {
	p := m.ports[i]
	if p.role != 1 && p.role != 2 || now < p.since+4 {
		return 0
	}
	if now < p.since+8 {
		return 1
	}
	return 2
}

func (m *model) set(i int, up bool, cost, now int) api.Errno {
	if i < 0 || i >= len(m.ports) || cost < 1 || cost > 1<<24 {
		return 1
	}
	p := &m.ports[i]
	if p.up != up {
		p.heard = nil
	}
	p.up, p.cost = up, cost
	m.anew(now)
	return 0
}

func (m *model) hear(i int, b api.Bpdu, now int) api.Errno {
	if i < 0 || i >= len(m.ports) || b.Role != 2 || b.Age < 0 || b.Age > 10 || b.Vector.Port < 0 || b.Vector.Port > 5 || b.Vector.Cost < 0 || b.Vector.Cost >= 1<<31 {
		return 1
	}
	if !m.ports[i].up {
		return 7
	}
	m.ports[i].heard, m.ports[i].at = append(m.ports[i].heard, b), now
	m.anew(now)
	return 0
}

func (m *model) tick(now int) []Said {
	for i := range m.ports {
		if m.ports[i].at+14 < now {
			m.ports[i].heard = nil
		}
	}
	m.anew(now)
	for i := range m.ports {
		if forwards := m.state(i, now) == 2; forwards != m.ports[i].forwards {
			m.ports[i].forwards = forwards
			m.changes = append(m.changes, now)
		}
	}
	age, change := 0, slices.ContainsFunc(m.changes, func(at int) bool { return now <= at+4 })
	if m.root >= 0 {
		age = m.last(m.root).Age + 1
	}
	var list []Said
	for i, p := range m.ports {
		if p.role == 2 && now%2 == 0 {
			list = append(list, Said{i, api.Bpdu{Vector: v(m.best.Root, m.best.Cost, m.id, i), Age: age, Role: 2, Change: change}})
		}
	}
	return list
}

// same fails unless a bridge's part is as the chapter tells.
func (m *model) same(t *testing.T, b *Tree, now int) {
	t.Helper()
	roles := make([]int, len(m.ports))
	for i, p := range m.ports {
		roles[i] = p.role
		for _, ahead := range []int{0, 1, 3, 4, 7, 8, 9} {
			if got, want := b.State(i, now+ahead), m.state(i, now+ahead); got != want {
				t.Fatalf("State(%d, %d): %d, not %d", i, now+ahead, got, want)
			}
		}
	}
	holds(t, b, m.best, m.root, roles...)
	if b.Id() != m.id {
		t.Fatalf("%d, not %d", b.Id(), m.id)
	}
}

// names are those of bridges, in order.
var names = []int{1, 2, 3, 4, rank + 1, 3 * rank, 15*rank + 5}

// drawn answers a message, some of which can't be.
func drawn(r *rand.Rand) api.Bpdu {
	name := func() int { return names[r.Intn(len(names))] }
	m := told(v(name(), r.Intn(4), name(), r.Intn(6)), r.Intn(11))
	switch r.Intn(40) {
	case 0:
		m.Role = r.Intn(6) - 1
	case 1:
		m.Age = 13*r.Intn(2) - 1
	case 2:
		m.Vector.Port = 7*r.Intn(2) - 1
	case 3:
		m.Vector.Cost = []int{-1, 1<<31 - 1, 1 << 31}[r.Intn(3)]
	}
	m.Change = r.Intn(2) == 0
	return m
}

// step does one drawn thing to a bridge's part and to what the chapter tells.
func step(t *testing.T, r *rand.Rand, b *Tree, m *model, now int) {
	t.Helper()
	switch i := r.Intn(len(m.ports)); r.Intn(12) {
	case 0:
		i += r.Intn(3) - 1
		on, cost := r.Intn(4) > 0, []int{0, 1, 2, 3, 4, 1 << 24, 1<<24 + 1}[r.Intn(7)]
		sets(t, b, i, on, cost, now, m.set(i, on, cost, now))
	case 1, 2, 3:
		if r.Intn(9) == 0 {
			i += r.Intn(3) - 1
		}
		x := drawn(r)
		hears(t, b, i, x, now, m.hear(i, x, now))
	default:
		says(t, b, now, m.tick(now)...)
	}
}

// TestAllOrders holds drawn calls, while ticks go on, against what the chapter says.
func TestAllOrders(t *testing.T) {
	r := rand.New(rand.NewSource(12))
	roles, found := [4]int{}, [3]int{}
	for range 1500 {
		id, ports := names[r.Intn(len(names))], 1+r.Intn(6)
		b, m := New(id, ports), &model{id: id, ports: make([]modelPort, ports)}
		m.anew(0)
		now := []int{0, 1, 1 << 20, 1 << 40, math.MaxInt - 1<<20}[r.Intn(5)]
		quick := r.Intn(3) == 0 // whether little time goes by between two calls
		for range 250 {
			step(t, r, b, m, now)
			m.same(t, b, now)
			for i := range ports {
				roles[b.Role(i)]++
				found[b.State(i, now)]++
			}
			switch {
			case quick:
				now += r.Intn(2)
			case r.Intn(30) == 0:
				now += r.Intn(40)
			default:
				now += r.Intn(3)
			}
		}
	}
	if slices.Min(roles[:]) < 5000 || slices.Min(found[:]) < 5000 {
		t.Errorf("too few: %v, %v", roles, found)
	}
}
