package regis

import (
	"math"
	"math/rand"
	"slices"
	"testing"

	"kissgate/api"
	"kissgate/table"
)

var modes = []int{api.Normal, api.Fixed, api.Forbidden}

// joins are the events by which somebody says it.
var joins = []int{api.EvNew, api.EvJoinIn, api.EvJoinMt}

// noModes are numbers that are no modes.
var noModes = []int{math.MinInt, -1 << 32, -1<<32 + 1, -256, -2, -1, 3, 4, 9, 255, 256, 257, 1 << 32, 1<<32 + 1, 1<<32 + 2, math.MaxInt}

// noWords are events at which nothing is done: two of them are words, the others are none.
var noWords = []int{api.EvIn, api.EvMt, math.MinInt, -1 << 32, -256, -2, -1, 6, 7, 255, 256, 261, 1 << 32, 1<<32 + 1, 1<<32 + 5, math.MaxInt}

// far are ticks of all kinds.
var far = []int{math.MinInt, math.MinInt + 1, math.MinInt + 121, -1 << 32, -121, -120, -24, -1, 0, 1, 24, 120, 121, 1 << 20, 1 << 32, 1 << 62, math.MaxInt - 121, math.MaxInt - 24, math.MaxInt - 1, math.MaxInt}

func with(t *testing.T, mode int) *Reg {
	t.Helper()
	r, e := New(mode)
	if r == nil || e != api.OK {
		t.Fatalf("New(%d): %v, %d", mode, r, e)
	}
	return r
}

// heard answers a Normal registrar that is in a state since a tick, by a word of then.
func heard(t *testing.T, state, now int) *Reg {
	t.Helper()
	r := with(t, api.Normal)
	if state != table.MT {
		hears(t, r, api.EvNew, now, now, true)
	}
	if state == table.LV {
		hears(t, r, api.EvLv, now, now, false)
	}
	if r.State() != state {
		t.Fatalf("the state %d, not %d", r.State(), state)
	}
	return r
}

// hears, ticks, flushes, sets fail unless a registrar answers so.
func hears(t *testing.T, r *Reg, event, born, now int, changes bool) {
	t.Helper()
	if got := r.Hear(event, born, now); got != changes {
		t.Fatalf("Hear(%d, %d, %d): %v", event, born, now, got)
	}
}

func ticks(t *testing.T, r *Reg, now int, changes bool) {
	t.Helper()
	if got := r.Tick(now); got != changes {
		t.Fatalf("Tick(%d): %v", now, got)
	}
}

func flushes(t *testing.T, r *Reg, now int, changes bool) {
	t.Helper()
	if got := r.Flush(now); got != changes {
		t.Fatalf("Flush(%d): %v", now, got)
	}
}

func sets(t *testing.T, r *Reg, mode int, want api.Errno) {
	t.Helper()
	if got := r.Set(mode); got != want {
		t.Fatalf("Set(%d): %d, not %d", mode, got, want)
	}
}

// holds fails unless a registrar is of that mode, in that state, and, if it is registered so, by a word of that tick.
func holds(t *testing.T, r *Reg, mode, state int, has bool, now, born int) {
	t.Helper()
	if r.Mode() != mode || r.State() != state || r.Has() != has || r.Born(now) != born || r.Idle() != (mode == api.Normal && state == table.MT) {
		t.Fatalf("at %d: the mode %d, the state %d, Has %v, Born %d, Idle %v, not %d, %d, %v, %d", now, r.Mode(), r.State(), r.Has(), r.Born(now), r.Idle(), mode, state, has, born)
	}
}

// isIn, leaves, isEmpty fail unless a Normal registrar is so.
func isIn(t *testing.T, r *Reg, born int) {
	t.Helper()
	holds(t, r, api.Normal, table.IN, true, 1<<19, born)
}

func leaves(t *testing.T, r *Reg, born int) {
	t.Helper()
	holds(t, r, api.Normal, table.LV, true, 1<<19, born)
}

func isEmpty(t *testing.T, r *Reg) {
	t.Helper()
	holds(t, r, api.Normal, table.MT, false, 1<<19, -1)
}

func TestExample(t *testing.T) {
	r := with(t, api.Normal)
	hears(t, r, api.EvJoinIn, 5, 6, true)
	for now := 6; now <= 125; now++ {
		ticks(t, r, now, false)
		isIn(t, r, 5)
	}
	ticks(t, r, 126, true)
	isEmpty(t, r)
}

func TestAtFirst(t *testing.T) {
	for _, now := range []int{0, 1, 9, 1 << 20, math.MaxInt} {
		holds(t, with(t, api.Normal), api.Normal, table.MT, false, now, -1)
		holds(t, with(t, api.Fixed), api.Fixed, table.MT, true, now, now)
		holds(t, with(t, api.Forbidden), api.Forbidden, table.MT, false, now, -1)
	}
	for _, mode := range modes {
		r := with(t, mode)
		r.All(3)
		hears(t, r, api.EvLv, 3, 3, false)
		flushes(t, r, 3, false)
		ticks(t, r, 500, false)
		holds(t, r, mode, table.MT, mode == api.Fixed, 501, with(t, mode).Born(501))
	}
}

func TestNewOfNoMode(t *testing.T) {
	for _, mode := range noModes {
		if r, e := New(mode); r != nil || e != api.ErrArg {
			t.Errorf("New(%d): %v, %d", mode, r, e)
		}
	}
}

func TestNil(t *testing.T) {
	var r *Reg
	for _, now := range append([]int{3, 9}, far...) {
		for event := -1; event <= 6; event++ {
			hears(t, r, event, now, now, false)
		}
		r.All(now)
		flushes(t, r, now, false)
		ticks(t, r, now, false)
		holds(t, r, 0, 0, false, now, -1)
	}
	for _, mode := range append(noModes, modes...) {
		sets(t, r, mode, api.ErrNil)
	}
}

// TestHearJoins: in each state it is registered behind such a word.
func TestHearJoins(t *testing.T) {
	for _, event := range joins {
		for state := table.MT; state <= table.IN; state++ {
			r := heard(t, state, 10)
			hears(t, r, event, 12, 13, state == table.MT)
			isIn(t, r, 12)
			hears(t, r, event, 13, 13, false)
			isIn(t, r, 13)
		}
	}
}

// TestHearOthers: they do nothing, whenever they were said.
func TestHearOthers(t *testing.T) {
	for _, event := range noWords {
		for _, born := range append([]int{9, 10, 11, 12, 13}, far...) {
			r := heard(t, table.MT, 10)
			hears(t, r, event, born, 12, false)
			isEmpty(t, r)
			r = heard(t, table.IN, 10)
			hears(t, r, event, born, 12, false)
			isIn(t, r, 10)
			r = heard(t, table.LV, 10)
			hears(t, r, event, born, 12, false)
			leaves(t, r, 10)
			ticks(t, r, 33, false)
			ticks(t, r, 34, true)
		}
	}
}

// TestHearAged: a word of Life ticks ago is none too old yet; what is too old, or below 0, does nothing in any state.
func TestHearAged(t *testing.T) {
	const now = 200
	for _, event := range joins {
		for born := -3; born <= now; born++ {
			r := with(t, api.Normal)
			hears(t, r, event, born, now, born >= now-120)
			if born < now-120 {
				isEmpty(t, r)
			} else {
				isIn(t, r, born)
			}
			r = heard(t, table.LV, 190)
			hears(t, r, event, born, now, false)
			if born < now-120 {
				leaves(t, r, 190)
			} else {
				isIn(t, r, max(born, 190))
			}
			r = heard(t, table.IN, 190)
			hears(t, r, event, born, now, false)
			isIn(t, r, max(born, 190))
		}
		for _, born := range far[:slices.Index(far, 0)] {
			for _, early := range []int{0, 1, 119, 120, 121} {
				r := with(t, api.Normal)
				hears(t, r, event, born, early, false)
				isEmpty(t, r)
			}
		}
	}
}

// TestHearAtFirstTicks: a word of the tick 0 is one; one of -1 isn't, though it isn't too old.
func TestHearAtFirstTicks(t *testing.T) {
	for _, now := range []int{0, 1, 119, 120} {
		r := with(t, api.Normal)
		hears(t, r, api.EvJoinIn, -1, now, false)
		isEmpty(t, r)
		hears(t, r, api.EvJoinIn, 0, now, true)
		isIn(t, r, 0)
	}
	hears(t, with(t, api.Normal), api.EvJoinIn, 0, 121, false)
}

// TestHearLaterThanNow: such a word was said at the present tick.
func TestHearLaterThanNow(t *testing.T) {
	for _, event := range joins {
		for _, born := range []int{10, 11, 12, 99, 1 << 20, 1 << 32, math.MaxInt - 1, math.MaxInt} {
			for state := table.MT; state <= table.IN; state++ {
				r := heard(t, state, 9)
				hears(t, r, event, born, 10, state == table.MT)
				isIn(t, r, 10)
			}
		}
	}
}

// TestBornIsTheLaterOne: an older word makes it no older, while it is registered or leaves.
func TestBornIsTheLaterOne(t *testing.T) {
	r := with(t, api.Normal)
	hears(t, r, api.EvJoinIn, 20, 30, true)
	hears(t, r, api.EvJoinMt, 10, 31, false)
	isIn(t, r, 20)
	hears(t, r, api.EvNew, 25, 32, false)
	isIn(t, r, 25)
	hears(t, r, api.EvLv, 0, 33, false)
	leaves(t, r, 25)
	hears(t, r, api.EvJoinIn, 24, 34, false)
	isIn(t, r, 25)
	r.All(35)
	hears(t, r, api.EvJoinIn, 26, 36, false)
	isIn(t, r, 26)
}

// TestBornAnew: of an empty one it is the word's, though one that kept it once was later.
func TestBornAnew(t *testing.T) {
	for _, empties := range []func(r *Reg){
		func(r *Reg) { flushes(t, r, 100, true) },
		func(r *Reg) { hears(t, r, api.EvLv, 1, 60, false); ticks(t, r, 100, true) },
		func(r *Reg) { r.All(60); ticks(t, r, 100, true) },
	} {
		r := with(t, api.Normal)
		hears(t, r, api.EvJoinIn, 50, 50, true)
		empties(r)
		isEmpty(t, r)
		hears(t, r, api.EvJoinIn, 3, 100, true)
		isIn(t, r, 3)
		ticks(t, r, 123, false)
		ticks(t, r, 124, true)
	}
}

// TestLeavesBySomeTicks: by a word that it leaves, or as all is asked for, it is there for Leave ticks more.
func TestLeavesBySomeTicks(t *testing.T) {
	for _, born := range append([]int{3, 10, 11}, far...) {
		r := heard(t, table.IN, 10)
		hears(t, r, api.EvLv, born, 11, false)
		goes(t, r, 11, 10)
	}
	r := heard(t, table.IN, 10)
	r.All(11)
	goes(t, r, 11, 10)
}

// goes fails unless a registrar leaves since a tick, and goes Leave ticks later.
func goes(t *testing.T, r *Reg, since, born int) {
	t.Helper()
	for now := since; now < since+24; now++ {
		leaves(t, r, born)
		ticks(t, r, now, false)
	}
	leaves(t, r, born)
	ticks(t, r, since+24, true)
	isEmpty(t, r)
	ticks(t, r, since+25, false)
}

// TestLeavesOnce: while it leaves, the time to leave isn't begun again.
func TestLeavesOnce(t *testing.T) {
	for _, first := range []func(r *Reg, now int){lv, all} {
		for _, again := range []func(r *Reg, now int){lv, all} {
			for _, at := range []int{12, 20, 33, 34, 35} {
				r := heard(t, table.IN, 10)
				first(r, 11)
				again(r, at)
				leaves(t, r, 10)
				if at < 35 {
					ticks(t, r, 34, false)
				}
				ticks(t, r, 35, true)
			}
		}
	}
}

func lv(r *Reg, now int)  { r.Hear(api.EvLv, now, now) }
func all(r *Reg, now int) { r.All(now) }

// TestLeavesAnew: behind another word the whole time to leave is given again.
func TestLeavesAnew(t *testing.T) {
	for _, leave := range []func(r *Reg, now int){lv, all} {
		r := heard(t, table.LV, 10)
		hears(t, r, api.EvJoinIn, 5, 33, false)
		ticks(t, r, 34, false)
		ticks(t, r, 60, false)
		isIn(t, r, 10)
		leave(r, 60)
		goes(t, r, 60, 10)
		hears(t, r, api.EvNew, 85, 86, true)
		leave(r, 86)
		goes(t, r, 86, 85)
	}
}

// TestLeftLongAgo: it goes at the first tick that comes, but not by itself: a word that comes ahead of it keeps it.
func TestLeftLongAgo(t *testing.T) {
	r := heard(t, table.LV, 10)
	leaves(t, r, 10)
	ticks(t, r, 99, true)
	isEmpty(t, r)
	r = heard(t, table.LV, 10)
	hears(t, r, api.EvJoinMt, 50, 99, false)
	ticks(t, r, 99, false)
	isIn(t, r, 50)
	r = heard(t, table.LV, 10)
	hears(t, r, api.EvLv, 50, 500, false)
	leaves(t, r, 10)
	ticks(t, r, 500, true)
	ticks(t, r, 500, false)
}

// TestGrowsOld: what is said again stays, as long as the word that keeps it isn't too old; whether it leaves doesn't matter.
func TestGrowsOld(t *testing.T) {
	r := with(t, api.Normal)
	hears(t, r, api.EvNew, 40, 40, true)
	hears(t, r, api.EvJoinIn, 40, 100, false)
	hears(t, r, api.EvJoinIn, 39, 150, false)
	ticks(t, r, 160, false)
	isIn(t, r, 40)
	ticks(t, r, 161, true)
	isEmpty(t, r)
	r = with(t, api.Normal)
	hears(t, r, api.EvNew, 40, 40, true)
	r.All(150)
	ticks(t, r, 160, false)
	leaves(t, r, 40)
	ticks(t, r, 161, true)
	isEmpty(t, r)
	hears(t, r, api.EvNew, 40, 161, false)
	isEmpty(t, r)
}

// TestGrowsOldWhileItLeaves: where both are due at once it goes once.
func TestGrowsOldWhileItLeaves(t *testing.T) {
	r := heard(t, table.IN, 40)
	r.All(137)
	ticks(t, r, 160, false)
	ticks(t, r, 161, true)
	isEmpty(t, r)
}

// TestOldUnticked: by a word that isn't too old it stays, though the one that kept it was.
func TestOldUnticked(t *testing.T) {
	r := heard(t, table.IN, 40)
	hears(t, r, api.EvJoinIn, 500, 510, false)
	ticks(t, r, 510, false)
	isIn(t, r, 500)
	ticks(t, r, 620, false)
	ticks(t, r, 621, true)
}

func TestFlush(t *testing.T) {
	for state := table.MT; state <= table.IN; state++ {
		r := heard(t, state, 10)
		flushes(t, r, 11, state != table.MT)
		isEmpty(t, r)
		flushes(t, r, 11, false)
		ticks(t, r, 400, false)
		isEmpty(t, r)
	}
}

// TestModesAnswerNoChange: of a Fixed one, and of a Forbidden one, nothing that is heard changes whether it is registered; the machine goes on all the same.
func TestModesAnswerNoChange(t *testing.T) {
	for _, mode := range []int{api.Fixed, api.Forbidden} {
		r, has := with(t, mode), mode == api.Fixed
		born := func(now int) int {
			if has {
				return now
			}
			return -1
		}
		for _, empties := range []func(now int){
			func(now int) { flushes(t, r, now, false) },
			func(now int) { ticks(t, r, now+23, false); r.All(now); ticks(t, r, now+24, false) },
			func(now int) { hears(t, r, api.EvLv, now, now, false); ticks(t, r, now+120, false) },
			func(now int) { ticks(t, r, now+120, false) },
		} {
			now := 1000
			hears(t, r, api.EvJoinIn, now-1, now, false)
			holds(t, r, mode, table.IN, has, now, born(now))
			ticks(t, r, now, false)
			holds(t, r, mode, table.IN, has, now, born(now))
			r.All(now)
			holds(t, r, mode, table.LV, has, now, born(now))
			empties(now)
			holds(t, r, mode, table.MT, has, now, born(now))
		}
	}
}

// TestSetLeavesTheRest: as the mode comes back, all is as if it had never been away.
func TestSetLeavesTheRest(t *testing.T) {
	for _, mode := range modes {
		r := heard(t, table.IN, 10)
		sets(t, r, mode, api.OK)
		hears(t, r, api.EvJoinIn, 12, 13, false)
		r.All(14)
		sets(t, r, api.Normal, api.OK)
		goes(t, r, 14, 12)
	}
	r := heard(t, table.LV, 10)
	sets(t, r, api.Forbidden, api.OK)
	holds(t, r, api.Forbidden, table.LV, false, 11, -1)
	sets(t, r, api.Fixed, api.OK)
	holds(t, r, api.Fixed, table.LV, true, 11, 11)
	holds(t, r, api.Fixed, table.LV, true, 12, 12)
	sets(t, r, api.Normal, api.OK)
	goes(t, r, 10, 10)
}

func TestSetOfNoMode(t *testing.T) {
	for _, mode := range modes {
		for _, wrong := range noModes {
			r := with(t, mode)
			hears(t, r, api.EvJoinIn, 10, 10, mode == api.Normal)
			sets(t, r, wrong, api.ErrArg)
			if r.Mode() != mode || r.State() != table.IN {
				t.Errorf("behind Set(%d): %d, %d", wrong, r.Mode(), r.State())
			}
			sets(t, r, api.Normal, api.OK)
			isIn(t, r, 10)
		}
	}
}

// TestTwoKnowNothing: what one hears the other one doesn't.
func TestTwoKnowNothing(t *testing.T) {
	a, b := with(t, api.Normal), with(t, api.Normal)
	hears(t, a, api.EvNew, 4, 5, true)
	isEmpty(t, b)
	hears(t, b, api.EvNew, 7, 8, true)
	b.All(8)
	sets(t, b, api.Forbidden, api.OK)
	isIn(t, a, 4)
	flushes(t, a, 9, true)
	if b.State() != table.LV {
		t.Error(b.State())
	}
}

// TestAskingChangesNothing: however often, and of whatever tick, Born and the others are asked.
func TestAskingChangesNothing(t *testing.T) {
	for _, mode := range modes {
		r, unasked := with(t, mode), with(t, mode)
		for now := range 300 {
			if now%40 == 0 {
				r.Hear(api.EvJoinIn, now, now)
				unasked.Hear(api.EvJoinIn, now, now)
			}
			for _, n := range far {
				r.Born(n)
			}
			r.Has()
			r.Idle()
			if r.Tick(now) != unasked.Tick(now) || r.State() != unasked.State() || r.Born(now) != unasked.Born(now) {
				t.Fatalf("at %d: %d, %d", now, r.State(), unasked.State())
			}
		}
	}
}

// TestFarTicks: whatever ticks it is given, each call ends, and a Fixed one is registered, a Forbidden one isn't.
func TestFarTicks(t *testing.T) {
	for _, mode := range modes {
		for _, first := range far {
			for _, then := range far {
				r := with(t, mode)
				for _, event := range joins {
					r.Hear(event, first, then)
					r.Hear(event, then, first)
				}
				r.All(first)
				r.Tick(then)
				r.Hear(api.EvLv, first, then)
				r.Tick(first)
				if mode != api.Normal && r.Has() != (mode == api.Fixed) {
					t.Errorf("the mode %d, the ticks %d, %d: %v", mode, first, then, r.Has())
				}
				r.Flush(then)
				if r.State() != table.MT {
					t.Errorf("the ticks %d, %d: the state %d", first, then, r.State())
				}
			}
		}
	}
}

// TestFarOn: ticks that go on may be as far as they like.
func TestFarOn(t *testing.T) {
	for _, base := range []int{1 << 20, 1 << 32, 1 << 62, math.MaxInt - 121} {
		r := with(t, api.Normal)
		hears(t, r, api.EvJoinIn, 5, base, false)
		hears(t, r, api.EvJoinIn, base, base, true)
		ticks(t, r, base+120, false)
		isIn(t, r, base)
		ticks(t, r, base+121, true)
		hears(t, r, api.EvJoinIn, math.MaxInt, base+121, true)
		isIn(t, r, base+121)
	}
}

// model is a registrar told of by the words that keep it (none: it is empty), and since when it leaves (-1: it doesn't).
type model struct {
	mode  int
	words []int
	since int
}

func (m *model) has() bool { return m.mode == api.Fixed || m.mode == api.Normal && len(m.words) > 0 }

func (m *model) state() int {
	switch {
	case len(m.words) == 0:
		return table.MT
	case m.since >= 0:
		return table.LV
	}
	return table.IN
}

func (m *model) hear(event, born, now int) {
	born = min(born, now)
	switch {
	case event == api.EvLv:
		m.leave(now)
	case slices.Contains(joins, event) && born >= 0 && born+120 >= now:
		m.words, m.since = append(m.words, born), -1
	}
}

func (m *model) leave(now int) {
	if m.state() == table.IN {
		m.since = now
	}
}

func (m *model) tick(now int) {
	if m.state() == table.LV && m.since+24 <= now || m.state() != table.MT && slices.Max(m.words)+120 < now {
		m.flush()
	}
}

func (m *model) flush() { m.words, m.since = nil, -1 }

func (m *model) born(now int) int {
	switch {
	case !m.has():
		return -1
	case m.mode == api.Fixed:
		return now
	}
	return slices.Max(m.words)
}

// drawnMoves counts what happened to drawn registrars, so that none of it is never tried.
type drawnMoves struct{ enters, left, aged, kept int }

// move does one drawn thing to a registrar and to its model, and fails unless both answer the same.
func move(t *testing.T, d *rand.Rand, r *Reg, m *model, now int, count *drawnMoves) {
	t.Helper()
	had := m.has()
	var changes bool
	switch kind := d.Intn(20); {
	case kind < 4:
		event, born := d.Intn(9)-1, now-d.Intn(140)+5
		if slices.Contains(joins, event) && m.state() == table.LV {
			count.kept++
		}
		changes = r.Hear(event, born, now)
		m.hear(event, born, now)
	case kind == 4:
		r.All(now)
		m.leave(now)
		changes = m.has() != had
	case kind == 5 && d.Intn(10) == 0:
		changes = r.Flush(now)
		m.flush()
	case kind == 6 && d.Intn(8) == 0:
		mode := d.Intn(5) - 1
		if e := r.Set(mode); (e == api.OK) != slices.Contains(modes, mode) {
			t.Fatalf("Set(%d): %d", mode, e)
		} else if e == api.OK {
			m.mode = mode
		}
		changes = m.has() != had
	default:
		was := m.state()
		changes = r.Tick(now)
		m.tick(now)
		if m.state() == table.MT && was == table.LV {
			count.left++
		} else if m.state() == table.MT && was == table.IN {
			count.aged++
		}
	}
	if changes != (m.has() != had) {
		t.Fatalf("at %d, the mode %d: the answer %v, and it is registered: %v", now, m.mode, changes, m.has())
	}
	if m.has() && !had {
		count.enters++
	}
	holds(t, r, m.mode, m.state(), m.has(), now, m.born(now))
}

func TestDrawn(t *testing.T) {
	d := rand.New(rand.NewSource(14))
	var count drawnMoves
	for range 400 {
		mode := modes[d.Intn(3)*d.Intn(2)]
		r, m := with(t, mode), &model{mode: mode, since: -1}
		quiet := 1 + d.Intn(30)
		for now := 0; now < 3000; now += d.Intn(quiet) {
			move(t, d, r, m, now, &count)
			if quiet == 1 {
				now++
			}
		}
	}
	if min(count.enters, count.left, count.aged, count.kept) < 1000 {
		t.Errorf("too few: %v", count)
	}
}

// TestNothingForEver: while ticks go on, what is registered, and Normal, was said at most Life ticks ago, whatever is heard; a Forbidden one is never registered, a Fixed one always.
func TestNothingForEver(t *testing.T) {
	d := rand.New(rand.NewSource(141))
	oldest, entered := 0, 0
	for range 200 {
		r, mode := with(t, api.Normal), api.Normal
		said := map[int]int{} // of each tick, how often a word of then came
		for now := range 1500 {
			r.Tick(now)
			for range d.Intn(3) * d.Intn(2) * d.Intn(2) * d.Intn(2) {
				event, born := d.Intn(7), now-d.Intn(200)
				r.Hear(event, born, now)
				if slices.Contains(joins, event) {
					said[born]++
				}
			}
			if d.Intn(200) == 0 {
				mode = modes[d.Intn(3)]
				sets(t, r, mode, api.OK)
			}
			if d.Intn(200) == 0 {
				r.All(now)
			}
			born := r.Born(now)
			switch {
			case mode != api.Normal && r.Has() != (mode == api.Fixed):
				t.Fatalf("at %d: the mode %d, Has %v", now, mode, r.Has())
			case mode == api.Normal && r.Has() && (born < now-120 || born < 0 || born > now || said[born] == 0):
				t.Fatalf("at %d: by a word of %d", now, born)
			case mode == api.Normal && r.Has():
				oldest = max(oldest, now-born)
				entered++
			}
		}
	}
	if oldest != 120 || entered < 10000 {
		t.Errorf("too few: %d, %d", oldest, entered)
	}
}

// TestKeptByWords: what is said again and again, from its first word to its last one on, is registered all that time, and Life ticks more.
func TestKeptByWords(t *testing.T) {
	for _, every := range []int{1, 6, 24, 60, 119, 120} {
		r := with(t, api.Normal)
		last := 0
		for now := range 1000 {
			ticks(t, r, now, false)
			if now%every == 0 {
				hears(t, r, api.EvJoinIn, now, now, now == 0)
				last = now
			}
			isIn(t, r, last)
		}
		ticks(t, r, last+120, false)
		ticks(t, r, last+121, true)
	}
}
