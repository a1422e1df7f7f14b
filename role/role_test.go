package role

import (
	"math"
	"math/rand"
	"testing"

	"kissgate/api"
)

// far are ticks of all kinds.
var far = []int{math.MinInt, math.MinInt + 1, math.MinInt + 8, -1 << 32, -9, -8, -4, -1, 0, 1, 4, 8, 1 << 20, 1 << 32, math.MaxInt - 8, math.MaxInt - 1, math.MaxInt}

// noRoles are numbers that are no roles.
var noRoles = []int{math.MinInt, -1<<32 + 1, -256, -2, -1, 4, 5, 9, 255, 256, 257, 1<<32 + 1, 1<<32 + 2, math.MaxInt}

// with answers a port that has had a role since a tick.
func with(r, since int) *Port {
	p := &Port{}
	p.Set(r, since)
	return p
}

// sets fails unless a port is given a role so, and then has that one.
func sets(t *testing.T, p *Port, r, now int, changes bool, want int) {
	t.Helper()
	if got := p.Set(r, now); got != changes {
		t.Fatalf("Set(%d, %d): %v", r, now, got)
	}
	if got := p.Role(); got != want {
		t.Fatalf("behind Set(%d, %d): the role %d, not %d", r, now, got, want)
	}
}

// holds fails unless a port is in that state at a tick, and waits for so long.
func holds(t *testing.T, p *Port, now, state, wait int) {
	t.Helper()
	if got := p.State(now); got != state {
		t.Fatalf("the role %d, State(%d): %d, not %d", p.Role(), now, got, state)
	}
	if got := p.Wait(now); got != wait {
		t.Fatalf("the role %d, Wait(%d): %d, not %d", p.Role(), now, got, wait)
	}
}

// opens fails unless a port answers so whether it has come to forward, or to do so no more.
func opens(t *testing.T, p *Port, now int, want bool) {
	t.Helper()
	if got := p.Opens(now); got != want {
		t.Fatalf("the role %d, Opens(%d): %v", p.Role(), now, got)
	}
}

// stateBy answers in which state a port is whose role comes to forward, by how long it has had it.
func stateBy(ticks int) int {
	if ticks < 4 {
		return api.Discarding
	}
	if ticks < 8 {
		return api.Learning
	}
	return api.Forwarding
}

func TestExample(t *testing.T) {
	p := with(api.RoleRoot, 10)
	holds(t, p, 13, api.Discarding, 5)
	holds(t, p, 14, api.Learning, 4)
	holds(t, p, 17, api.Learning, 1)
	holds(t, p, 18, api.Forwarding, 0)
}

func TestAtFirst(t *testing.T) {
	for _, now := range far {
		p := &Port{}
		opens(t, p, now, false)
		holds(t, p, now, api.Discarding, -1)
		sets(t, p, api.RoleNone, now, false, api.RoleNone)
		var empty Port
		opens(t, &empty, now, false)
		holds(t, &empty, now, api.Discarding, -1)
	}
}

func TestNilPort(t *testing.T) {
	var p *Port
	for _, now := range far {
		for r := -1; r <= 4; r++ {
			sets(t, p, r, now, false, api.RoleNone)
		}
		opens(t, p, now, false)
		holds(t, p, now, api.Discarding, -1)
	}
}

// TestStateByTick: ahead of the tick since which it has its role it discards too.
func TestStateByTick(t *testing.T) {
	for _, r := range []int{api.RoleRoot, api.RoleDesignated} {
		p := with(r, 10)
		for now := -300; now <= 300; now++ {
			holds(t, p, now, stateBy(now-10), max(0, 18-now))
		}
		for now := 300; now >= -300; now-- {
			holds(t, p, now, stateBy(now-10), max(0, 18-now))
		}
	}
}

func TestOthersNeverForward(t *testing.T) {
	for _, r := range append([]int{api.RoleNone, api.RoleAlternate}, noRoles...) {
		for _, now := range append([]int{13, 14, 17, 18, 19, 99}, far...) {
			p := with(api.RoleRoot, 0)
			p.Set(r, 10)
			opens(t, p, now, false)
			holds(t, p, now, api.Discarding, -1)
		}
	}
}

// TestTicksGoRound: so many ticks on from a tick it learns, and forwards, wherever that tick lies.
func TestTicksGoRound(t *testing.T) {
	for _, r := range []int{api.RoleRoot, api.RoleDesignated} {
		for _, since := range far {
			p := with(r, since)
			for ticks := -20; ticks <= 20; ticks++ {
				holds(t, p, since+ticks, stateBy(ticks), max(0, 8-ticks))
			}
			for _, ticks := range []int{1 << 20, 1 << 32, 1 << 62, math.MaxInt} {
				holds(t, p, since+ticks, api.Forwarding, 0)
			}
			for _, ticks := range []int{-1 << 20, -1 << 32, -1 << 62, math.MinInt + 9} {
				holds(t, p, since+ticks, api.Discarding, 8-ticks)
			}
			if got := p.State(since + math.MinInt); got != api.Discarding {
				t.Errorf("%d: %d", since, got)
			}
		}
	}
}

func TestSetAgain(t *testing.T) {
	for _, r := range []int{api.RoleRoot, api.RoleDesignated, api.RoleAlternate} {
		p := &Port{}
		sets(t, p, r, 5, true, r)
		for _, now := range append([]int{7, 5, 3, 13}, far...) {
			sets(t, p, r, now, false, r)
		}
		if r == api.RoleAlternate {
			holds(t, p, 13, api.Discarding, -1)
			continue
		}
		holds(t, p, 12, api.Learning, 1)
		holds(t, p, 13, api.Forwarding, 0)
	}
}

// TestSetAnother: with another role it begins anew, though both come to forward.
func TestSetAnother(t *testing.T) {
	for from := api.RoleNone; from <= api.RoleAlternate; from++ {
		for to := api.RoleNone; to <= api.RoleAlternate; to++ {
			p := with(from, 0)
			sets(t, p, to, 50, from != to, to)
			switch {
			case to == api.RoleNone || to == api.RoleAlternate:
				holds(t, p, 99, api.Discarding, -1)
			case from == to:
				holds(t, p, 50, api.Forwarding, 0)
			default:
				holds(t, p, 50, api.Discarding, 8)
				holds(t, p, 54, api.Learning, 4)
				holds(t, p, 58, api.Forwarding, 0)
			}
		}
	}
}

// TestSetAndBack: a role that it had once, and lost, is another one again.
func TestSetAndBack(t *testing.T) {
	p := with(api.RoleRoot, 0)
	sets(t, p, api.RoleAlternate, 20, true, api.RoleAlternate)
	sets(t, p, api.RoleRoot, 20, true, api.RoleRoot)
	holds(t, p, 20, api.Discarding, 8)
	sets(t, p, api.RoleDesignated, 3, true, api.RoleDesignated) // ticks may go back
	holds(t, p, 20, api.Forwarding, 0)
	holds(t, p, 3, api.Discarding, 8)
}

func TestSetNoRole(t *testing.T) {
	for _, r := range noRoles {
		p := &Port{}
		sets(t, p, r, 1, false, api.RoleNone)
		for role := api.RoleRoot; role <= api.RoleAlternate; role++ {
			sets(t, p, role, 2, true, role)
			sets(t, p, r, 3, true, api.RoleNone)
			for _, other := range noRoles {
				sets(t, p, other, 4, false, api.RoleNone)
			}
			sets(t, p, api.RoleNone, 4, false, api.RoleNone)
			holds(t, p, 99, api.Discarding, -1)
		}
	}
}

func TestOpens(t *testing.T) {
	p := with(api.RoleDesignated, 5)
	for now := 5; now < 13; now++ {
		opens(t, p, now, false)
	}
	opens(t, p, 13, true)
	for _, now := range []int{13, 14, 13, 99, 13} {
		opens(t, p, now, false)
	}
	sets(t, p, api.RoleAlternate, 99, true, api.RoleAlternate)
	opens(t, p, 99, true) // it forwards no more
	opens(t, p, 99, false)
	opens(t, p, 200, false)
}

// TestOpensByWhatItWasAsked: what it was between two calls isn't seen.
func TestOpensByWhatItWasAsked(t *testing.T) {
	p := with(api.RoleRoot, 0)
	opens(t, p, 8, true)
	sets(t, p, api.RoleNone, 9, true, api.RoleNone)
	sets(t, p, api.RoleRoot, 10, true, api.RoleRoot)
	opens(t, p, 18, false)
	sets(t, p, api.RoleDesignated, 20, true, api.RoleDesignated)
	opens(t, p, 20, true)
	sets(t, p, api.RoleRoot, 21, true, api.RoleRoot)
	opens(t, p, 28, false)
	opens(t, p, 29, true)
	fresh := with(api.RoleRoot, 0)
	sets(t, fresh, api.RoleAlternate, 30, true, api.RoleAlternate)
	opens(t, fresh, 40, false)
}

// TestOpensWhileTicksGoBack: it forwarded when it was asked last, and at that tick it does not.
func TestOpensWhileTicksGoBack(t *testing.T) {
	p := with(api.RoleRoot, 10)
	opens(t, p, 18, true)
	opens(t, p, 17, true)
	opens(t, p, 10, false)
	opens(t, p, -5, false)
	opens(t, p, 500, true)
	opens(t, p, -500, true)
}

// TestOthersDoNotOpen: what else is asked of a port doesn't change what Opens answers.
func TestOthersDoNotOpen(t *testing.T) {
	p := with(api.RoleRoot, 0)
	for range 3 {
		holds(t, p, 8, api.Forwarding, 0)
		sets(t, p, api.RoleRoot, 8, false, api.RoleRoot)
	}
	opens(t, p, 8, true)
	holds(t, p, 7, api.Learning, 1)
	opens(t, p, 8, false)
}

func TestTwoPorts(t *testing.T) {
	a, b := with(api.RoleRoot, 0), with(api.RoleDesignated, 4)
	opens(t, a, 8, true)
	opens(t, b, 8, false)
	sets(t, a, api.RoleAlternate, 9, true, api.RoleAlternate)
	holds(t, b, 12, api.Forwarding, 0)
	opens(t, b, 12, true)
	opens(t, a, 12, true)
}

// model is a port as the chapter tells of it: it remembers all that it was given.
type model struct {
	roles, since []int
	asked        []bool
}

func (m *model) role() int { return m.roles[len(m.roles)-1] }

func (m *model) set(r, now int) bool {
	if r != 1 && r != 2 && r != 3 {
		r = 0
	}
	if r == m.role() {
		return false
	}
	m.roles, m.since = append(m.roles, r), append(m.since, now)
	return true
}

func (m *model) state(now int) int {
	if r := m.role(); r == 0 || r == 3 {
		return 0
	}
	return stateBy(now - m.since[len(m.since)-1])
}

func (m *model) opens(now int) bool {
	m.asked = append(m.asked, m.state(now) == 2)
	return m.asked[len(m.asked)-1] != m.asked[len(m.asked)-2]
}

func (m *model) wait(now int) int {
	if r := m.role(); r == 0 || r == 3 {
		return -1
	}
	for ticks := 0; ; ticks++ {
		if m.state(now+ticks) == 2 {
			return ticks
		}
	}
}

// TestAllOrders holds drawn calls, at ticks that go on and back, against what the chapter says.
func TestAllOrders(t *testing.T) {
	r := rand.New(rand.NewSource(11))
	seen := [3]int{}
	for range 600 {
		p, m := &Port{}, &model{roles: []int{0}, since: []int{0}, asked: []bool{false}}
		from := far[r.Intn(len(far))]
		for range 200 {
			now := from + r.Intn(40) - 20
			switch r.Intn(3) {
			case 0:
				role := r.Intn(6) - 1
				want := m.set(role, now)
				sets(t, p, role, now, want, m.role())
			case 1:
				opens(t, p, now, m.opens(now))
			default:
				holds(t, p, now, m.state(now), m.wait(now))
				seen[m.state(now)]++
			}
		}
	}
	if seen[0] < 1000 || seen[1] < 1000 || seen[2] < 1000 {
		t.Errorf("too few: %v", seen)
	}
}

// TestForwardsJustBehindTwoDelays: whatever role it had ahead, and however often the same one is set.
func TestForwardsJustBehindTwoDelays(t *testing.T) {
	r := rand.New(rand.NewSource(112))
	forwards := 0
	for range 300 {
		p, since := &Port{}, 0
		for now := range 300 {
			if r.Intn(4) == 0 && p.Set([]int{1, 1, 1, 1, 1, 1, 2, 3, 0}[r.Intn(9)], now) {
				since = now
			}
			comes := p.Role() == api.RoleRoot || p.Role() == api.RoleDesignated
			want := comes && now-since >= 2*api.FwdDelay
			if got := p.State(now) == api.Forwarding; got != want || (p.Wait(now) == 0) != want {
				t.Fatalf("the role %d since %d, at %d: %v, %d", p.Role(), since, now, got, p.Wait(now))
			}
			if want {
				forwards++
			}
		}
	}
	if forwards < 10000 {
		t.Errorf("too few: %d", forwards)
	}
}
