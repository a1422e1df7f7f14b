package tree

import (
	"math/rand"
	"slices"
	"testing"

	"kissgate/api"
)

// end is a bridge's port.
type end struct{ bridge, port int }

// onWay is a message that is heard later.
type onWay struct {
	to  end
	m   api.Bpdu
	due int
}

// plan is bridges whose ports are joined two by two, and what is on its way between them.
type plan struct {
	bridges []*Tree
	costs   [][]int
	joined  map[end]end
	down    map[end]int
	way     []onWay
	delay   func(from end) int
}

// newPlan draws bridges, of names in no order, and joins: more or fewer of them, some of them of the same two bridges.
func newPlan(r *rand.Rand, size int) *plan {
	p := &plan{joined: map[end]end{}, down: map[end]int{}}
	free := []end{}
	for i, n := range r.Perm(size + 3)[:size] {
		id := []int{1, 2 * many, rank, 7 * rank, 15 * rank}[r.Intn(5)] + n
		ports := 1 + r.Intn(6)
		p.bridges = append(p.bridges, New(id, ports))
		p.costs = append(p.costs, make([]int, ports))
		most := []int{1, 3, 1 << 24}[r.Intn(3)] // where few costs differ, names and ports count
		for port := range ports {
			p.costs[i][port] = 1 + r.Intn(most)
			free = append(free, end{i, port})
		}
	}
	r.Shuffle(len(free), func(i, k int) { free[i], free[k] = free[k], free[i] })
	for joins := r.Intn(len(free) + 4); joins > 0 && len(free) > 1; joins-- {
		if a, b := free[0], free[1]; a.bridge != b.bridge {
			p.joined[a], p.joined[b] = b, a
			free = free[2:]
		} else {
			free = append(free[1:], a)
		}
	}
	return p
}

// delays draws how late what is said is heard: always as late as can be, never, from each port so late, or at any time.
func delays(r *rand.Rand) func(end) int {
	kind, by := r.Intn(4), map[end]int{}
	return func(from end) int {
		switch {
		case kind == 0:
			return api.MaxHold
		case kind == 1:
			return 0
		case kind == 2:
			return r.Intn(api.MaxHold + 1)
		}
		if _, ok := by[from]; !ok {
			by[from] = r.Intn(api.MaxHold + 1)
		}
		return by[from]
	}
}

// turn sets a port up or down.
func (p *plan) turn(e end, up bool, now int) {
	p.bridges[e.bridge].Set(e.port, up, p.costs[e.bridge][e.port], now)
	delete(p.down, e)
	if !up {
		p.down[e] = 1
	}
}

// ahead is what happens till all stands still: ports go up and down, and messages of all kinds are heard, such as nobody said too, of roots that there aren't.
func (p *plan) ahead(r *rand.Rand, now int) {
	for i, b := range p.bridges {
		for port := range b.Ports() {
			e := end{i, port}
			if r.Intn(20) == 0 {
				p.turn(e, r.Intn(3) > 0, now)
			}
			if r.Intn(4) == 0 {
				from := p.bridges[r.Intn(len(p.bridges))].Id()
				b.Hear(port, told(v(1+r.Intn(3), r.Intn(9), from, r.Intn(6)), r.Intn(11)), now)
			}
		}
	}
}

// settle sets all ports to what they are from then on: a port whose other end is down may be up.
func (p *plan) settle(r *rand.Rand, now int) {
	downs := r.Intn(3)
	for i, b := range p.bridges {
		for port := range b.Ports() {
			p.turn(end{i, port}, downs == 0 || r.Intn(8) > 0, now)
		}
	}
}

// tick lets all that is due be heard, and each bridge say what it says: some of it is heard by others at that tick.
func (p *plan) tick(r *rand.Rand, now int) {
	for _, i := range r.Perm(len(p.bridges)) {
		p.deliver(now)
		for _, s := range p.bridges[i].Tick(now) {
			from := end{i, s.Port}
			if to, ok := p.joined[from]; ok {
				p.way = append(p.way, onWay{to, s.Bpdu, now + p.delay(from)})
			}
		}
	}
	p.deliver(now)
}

func (p *plan) deliver(now int) {
	late := p.way[:0]
	for _, w := range p.way {
		if w.due > now {
			late = append(late, w)
			continue
		}
		p.bridges[w.to.bridge].Hear(w.to.port, w.m, now)
	}
	p.way = late
}

// leads answers the end to which a port leads; false, if it leads to none, or one of the two is down.
func (p *plan) leads(e end) (end, bool) {
	to, ok := p.joined[e]
	return to, ok && p.down[e] == 0 && p.down[to] == 0
}

// held answers what each bridge holds of the root in the tree of Example 2, and its root port. A bridge holds what a way of so many joins gives it, one more a round.
func (p *plan) held() ([]api.Vector, []int) {
	best, root := make([]api.Vector, len(p.bridges)), make([]int, len(p.bridges))
	for i := range best {
		best[i] = v(p.least(i), 1<<40, 0, 0) // dearer than all ways
		if root[i] = -1; best[i].Root == p.bridges[i].Id() {
			best[i] = v(best[i].Root, 0, best[i].Root, 0)
		}
	}
	for range p.bridges {
		was := slices.Clone(best)
		for i, b := range p.bridges {
			if best[i].Root == b.Id() {
				continue
			}
			best[i].Cost = 1 << 40
			for port := range b.Ports() {
				to, ok := p.leads(end{i, port})
				if !ok {
					continue
				}
				through := v(was[to.bridge].Root, was[to.bridge].Cost+p.costs[i][port], p.bridges[to.bridge].Id(), to.port)
				if worse(best[i], through) {
					best[i], root[i] = through, port
				}
			}
		}
	}
	return best, root
}

// least answers the least name of all bridges to which one leads.
func (p *plan) least(i int) int {
	seen := map[int]int{i: 1}
	for list := []int{i}; len(list) > 0; list = list[1:] {
		for port := range p.bridges[list[0]].Ports() {
			if to, ok := p.leads(end{list[0], port}); ok && seen[to.bridge] == 0 {
				seen[to.bridge] = 1
				list = append(list, to.bridge)
			}
		}
	}
	least := p.bridges[i].Id()
	for k := range seen {
		least = min(least, p.bridges[k].Id())
	}
	return least
}

// role answers a port's in the tree of Example 2.
func (p *plan) role(e end, best []api.Vector, root []int) int {
	if p.down[e] != 0 {
		return api.RoleNone
	}
	to, ok := p.leads(e)
	if e.port == root[e.bridge] {
		return api.RoleRoot
	}
	offer := func(of end) api.Vector {
		return v(best[of.bridge].Root, best[of.bridge].Cost, p.bridges[of.bridge].Id(), of.port)
	}
	if !ok || worse(offer(to), offer(e)) {
		return api.RoleDesignated
	}
	return api.RoleAlternate
}

// isTheTree fails unless all bridges' parts are the tree, and all of it forwards.
func (p *plan) isTheTree(t *testing.T, now int) {
	t.Helper()
	best, root := p.held()
	for i, b := range p.bridges {
		roles := make([]int, b.Ports())
		for port := range roles {
			roles[port] = p.role(end{i, port}, best, root)
			want := api.Discarding
			if roles[port] == api.RoleRoot || roles[port] == api.RoleDesignated {
				want = api.Forwarding
			}
			if got := b.State(port, now); got != want {
				t.Fatalf("at %d the port %d of %d, of role %d: %d", now, port, i, roles[port], got)
			}
		}
		holds(t, b, best[i], root[i], roles...)
	}
}

// isATree fails unless the joins both ends of which forward lead to all bridges to which joins lead, each by one way.
func (p *plan) isATree(t *testing.T, now int) {
	t.Helper()
	group, roots := make([]int, len(p.bridges)), map[int]int{} // bridges of one group hang together by what is open
	for i := range group {
		group[i] = i
		roots[p.least(i)] = 1
	}
	groups := len(group)
	for a, b := range p.joined {
		if _, ok := p.leads(a); !ok || a.bridge > b.bridge || p.bridges[a.bridge].State(a.port, now) != api.Forwarding || p.bridges[b.bridge].State(b.port, now) != api.Forwarding {
			continue
		}
		from, to := group[a.bridge], group[b.bridge]
		if from == to {
			t.Fatalf("at %d: the join of %v and %v closes a ring", now, a, b)
		}
		for i := range group {
			if group[i] == from {
				group[i] = to
			}
		}
		groups--
	}
	if groups != len(roots) {
		t.Fatalf("at %d: %d groups, not %d", now, groups, len(roots))
	}
}

// TestStands: whatever was heard ahead, within Bound ticks the tree stands, and goes on standing.
func TestStands(t *testing.T) {
	r := rand.New(rand.NewSource(122))
	for round := range 250 {
		size := 1 + round%8
		p := newPlan(r, size)
		p.delay = delays(r)
		start := r.Intn(1 << 20)
		for now := start - r.Intn(60); now < start; now++ {
			p.ahead(r, max(now, 0))
			p.tick(r, max(now, 0))
		}
		p.settle(r, start)
		for now := start; now <= start+Bound(size)+60; now++ {
			p.tick(r, now)
			if now >= start+Bound(size) {
				p.isTheTree(t, now)
				p.isATree(t, now)
			}
		}
	}
}

// TestStandsAgain: a tree that stood comes to stand anew when ports go down, the root's among them.
func TestStandsAgain(t *testing.T) {
	r := rand.New(rand.NewSource(123))
	for range 40 {
		p := newPlan(r, api.MaxBridges)
		p.delay = delays(r)
		now := 0
		for range 4 {
			p.settle(r, now)
			for still := now + Bound(len(p.bridges)); now <= still; now++ {
				p.tick(r, now)
			}
			p.isTheTree(t, now-1)
			p.isATree(t, now-1)
		}
	}
}

// TestRowStands: the longest way that eight bridges make.
func TestRowStands(t *testing.T) {
	for _, delay := range []int{0, 1, 5, api.MaxHold} {
		p := &plan{joined: map[end]end{}, down: map[end]int{}, delay: func(end) int { return delay }}
		for i := range api.MaxBridges {
			p.bridges = append(p.bridges, New(9-i, 2))
			p.costs = append(p.costs, []int{1 << 24, 1 << 24})
			if i > 0 {
				a, b := end{i - 1, 1}, end{i, 0}
				p.joined[a], p.joined[b] = b, a
			}
		}
		r := rand.New(rand.NewSource(1))
		for i := range p.bridges {
			p.turn(end{i, 0}, true, 0)
			p.turn(end{i, 1}, true, 0)
		}
		for now := range Bound(api.MaxBridges) + 1 {
			p.tick(r, now)
		}
		p.isTheTree(t, Bound(api.MaxBridges))
		if got := p.bridges[0].Best(); got != v(2, 7<<24, 8, 0) {
			t.Errorf("%v", got)
		}
	}
}
