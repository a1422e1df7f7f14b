package appli

import (
	"math"
	"math/rand"
	"slices"
	"testing"

	"kissgate/api"
	"kissgate/table"
)

// states are all that the machine has, as they count.
var states = []int{table.VO, table.VN, table.AA, table.QA, table.LA}

// ticks are some at which a word may have been said first; belows are numbers that are none.
var (
	ticks  = []int{0, 1, 2, 5, 119, 120, 121, 1 << 20, 1<<20 + 1, 1 << 31, 1 << 32, 1<<32 + 1, 1 << 62, math.MaxInt - 1, math.MaxInt}
	belows = []int{-1, -2, -120, -121, -256, -1 << 20, -1 << 31, -1 << 32, -1<<32 + 1, -1 << 62, math.MinInt + 1, math.MinInt}
)

// in answers an applicant that came to a state by a word of a tick.
func in(t *testing.T, state, born int) *App {
	t.Helper()
	a := &App{}
	if state != table.VO {
		a.Want(born, false)
	}
	if state == table.AA || state == table.QA {
		says(t, a, api.EvNew, born)
	}
	if state == table.QA {
		says(t, a, api.EvJoinIn, born)
	}
	if state == table.LA {
		a.Want(-1, false)
	}
	is(t, a, state)
	return a
}

// says, silent fail unless an applicant says just that when something may be said.
func says(t *testing.T, a *App, event, born int) {
	t.Helper()
	if e, b, any := a.Say(); e != event || b != born || !any {
		t.Fatalf("Say: %d, %d, %v, not %d, %d, true", e, b, any, event, born)
	}
}

func silent(t *testing.T, a *App) {
	t.Helper()
	if e, b, any := a.Say(); e != 0 || b != 0 || any {
		t.Fatalf("Say: %d, %d, %v, not 0, 0, false", e, b, any)
	}
}

// is fails unless an applicant is in that state, and answers all that goes with it.
func is(t *testing.T, a *App, state int) {
	t.Helper()
	speaks := slices.Contains([]int{table.VN, table.AA, table.QA}, state)
	pending := slices.Contains([]int{table.VN, table.AA, table.LA}, state)
	if a.State() != state || a.Speaks() != speaks || a.Pending() != pending || a.Idle() != (state == table.VO) {
		t.Fatalf("State %d, Speaks %v, Pending %v, Idle %v, not of the state %d", a.State(), a.Speaks(), a.Pending(), a.Idle(), state)
	}
}

func TestExample(t *testing.T) {
	a := &App{}
	a.Want(5, false)
	says(t, a, api.EvNew, 5)
	says(t, a, api.EvJoinIn, 5)
	silent(t, a)
}

// TestAtFirst: an empty one is as one of which nothing was ever wanted, whether it is a variable or new.
func TestAtFirst(t *testing.T) {
	var a App
	is(t, &a, table.VO)
	silent(t, &a)
	a.All()
	a.Again()
	for _, below := range belows {
		a.Want(below, true)
		a.Want(below, false)
	}
	is(t, &a, table.VO)
	silent(t, &a)
	is(t, new(App), table.VO)
}

func TestNil(t *testing.T) {
	var a *App
	for _, born := range append(belows, ticks...) {
		a.Want(born, true)
		a.Want(born, false)
		a.All()
		a.Again()
		silent(t, a)
		is(t, a, table.VO)
	}
}

// TestWantByStates: to which state it comes from each one, and with which tick it says what comes next.
func TestWantByStates(t *testing.T) {
	for _, row := range []struct {
		from       int
		new        bool
		to, behind int // the state, and that in which it is when it said something
		event      int
	}{
		{table.VO, false, table.VN, table.AA, api.EvNew},
		{table.VO, true, table.VN, table.AA, api.EvNew},
		{table.VN, false, table.VN, table.AA, api.EvNew},
		{table.VN, true, table.VN, table.AA, api.EvNew},
		{table.AA, false, table.AA, table.QA, api.EvJoinIn},
		{table.AA, true, table.AA, table.QA, api.EvJoinIn},
		{table.LA, false, table.AA, table.QA, api.EvJoinIn},
		{table.LA, true, table.VN, table.AA, api.EvNew},
	} {
		for _, born := range ticks {
			a := in(t, row.from, 7)
			a.Want(born, row.new)
			is(t, a, row.to)
			says(t, a, row.event, born)
			is(t, a, row.behind)
		}
	}
}

// TestWantOfWhatWasSaid: it isn't begun anew, though it is wanted as new, but its word's tick is another one.
func TestWantOfWhatWasSaid(t *testing.T) {
	for _, born := range ticks {
		for _, new := range []bool{false, true} {
			for _, again := range []func(a *App){(*App).All, (*App).Again} {
				a := in(t, table.QA, 7)
				a.Want(born, new)
				is(t, a, table.QA)
				silent(t, a)
				again(a)
				says(t, a, api.EvJoinIn, born)
				silent(t, a)
				a.Want(-1, new)
				says(t, a, api.EvLv, born)
			}
		}
	}
}

// TestWantOfAnEarlierWord: the tick is that of the last word, not the latest one.
func TestWantOfAnEarlierWord(t *testing.T) {
	a := &App{}
	for _, born := range []int{9, 3, 0, 5} {
		a.Want(born, false)
	}
	says(t, a, api.EvNew, 5)
	a.Want(4, false)
	says(t, a, api.EvJoinIn, 4)
	a.Want(0, false)
	a.Want(-1, false)
	says(t, a, api.EvLv, 0)
}

// TestWantNoMore: of whatever number below 0, and as new or not: it leaves, and tells so with the tick of its word.
func TestWantNoMore(t *testing.T) {
	for _, below := range belows {
		for _, new := range []bool{false, true} {
			for _, state := range []int{table.VN, table.AA, table.QA, table.LA} {
				for _, born := range ticks {
					a := in(t, state, born)
					a.Want(below, new)
					is(t, a, table.LA)
					a.Want(below, new)
					says(t, a, api.EvLv, born)
					is(t, a, table.VO)
					silent(t, a)
					a.Want(below, new)
					is(t, a, table.VO)
					silent(t, a)
				}
			}
		}
	}
}

// TestAskedByStates: what was said is to be said once more; all else stays as it is.
func TestAskedByStates(t *testing.T) {
	for _, ask := range []func(a *App){(*App).All, (*App).Again} {
		for _, state := range states {
			a := in(t, state, 7)
			want := state
			if state == table.QA {
				want = table.AA
			}
			for range 3 {
				ask(a)
				is(t, a, want)
			}
		}
	}
}

func TestSayByStates(t *testing.T) {
	for _, born := range ticks {
		silent(t, in(t, table.VO, born))
		silent(t, in(t, table.QA, born))
		a := in(t, table.VN, born)
		says(t, a, api.EvNew, born)
		is(t, a, table.AA)
		says(t, a, api.EvJoinIn, born)
		is(t, a, table.QA)
		silent(t, a)
		is(t, a, table.QA)
		a = in(t, table.LA, born)
		says(t, a, api.EvLv, born)
		is(t, a, table.VO)
		silent(t, a)
		is(t, a, table.VO)
	}
}

// TestSaidTwice: what is to be said is said twice, and once more each time that it is asked for, however often at once.
func TestSaidTwice(t *testing.T) {
	for _, new := range []bool{false, true} {
		for _, early := range []int{0, 1, 2} {
			a := &App{}
			a.Want(7, new)
			for i := range 2 {
				// What is asked for while it is still to be said is said no more often.
				if i < early {
					a.All()
					a.Again()
				}
				says(t, a, []int{api.EvNew, api.EvJoinIn}[i], 7)
			}
			silent(t, a)
			for _, ask := range []func(a *App){(*App).All, (*App).Again, (*App).Again, (*App).All} {
				ask(a)
				ask(a)
				says(t, a, api.EvJoinIn, 7)
				silent(t, a)
				silent(t, a)
			}
		}
	}
}

// TestLeftOnce: what is to be said no more is left once, whoever asks for all, and it is begun anew as if it had never been.
func TestLeftOnce(t *testing.T) {
	for _, state := range []int{table.VN, table.AA, table.QA, table.LA} {
		a := in(t, state, 7)
		a.Want(-1, false)
		for range 3 {
			a.All()
			a.Again()
			is(t, a, table.LA)
		}
		says(t, a, api.EvLv, 7)
		for range 3 {
			a.All()
			a.Again()
			silent(t, a)
			is(t, a, table.VO)
		}
		a.Want(9, false)
		says(t, a, api.EvNew, 9)
		says(t, a, api.EvJoinIn, 9)
		silent(t, a)
	}
}

// TestWantedAgain: what comes back ahead of its being left was never left; it is said twice as new, else once more.
func TestWantedAgain(t *testing.T) {
	a := in(t, table.LA, 7)
	a.Want(8, false)
	says(t, a, api.EvJoinIn, 8)
	silent(t, a)
	a = in(t, table.LA, 7)
	a.Want(8, true)
	says(t, a, api.EvNew, 8)
	says(t, a, api.EvJoinIn, 8)
	silent(t, a)
}

// TestTwoKnowNothing: what one is to say the other one isn't.
func TestTwoKnowNothing(t *testing.T) {
	a, b := &App{}, &App{}
	a.Want(4, false)
	is(t, b, table.VO)
	silent(t, b)
	b.Want(6, true)
	says(t, b, api.EvNew, 6)
	b.Want(-1, false)
	is(t, a, table.VN)
	says(t, a, api.EvNew, 4)
	says(t, b, api.EvLv, 6)
	says(t, a, api.EvJoinIn, 4)
}

// model is an applicant told of by what it still owes: so many times to say its word, the first of them as new, or once that it leaves.
type model struct {
	born                 int
	speaks, fresh, leave bool
	owes                 int
}

func (m *model) want(born int, new bool) {
	switch {
	case born < 0:
		m.leave = m.leave || m.speaks
		m.speaks, m.fresh, m.owes = false, false, 0
		return
	case !m.speaks:
		m.owes = 1
		if new || !m.leave {
			m.owes, m.fresh = 2, true
		}
	}
	m.born, m.speaks, m.leave = born, true, false
}

func (m *model) ask() {
	if m.speaks {
		m.owes = max(m.owes, 1)
	}
}

func (m *model) say() (int, int, bool) {
	event := api.EvJoinIn
	switch {
	case m.leave:
		m.leave = false
		return api.EvLv, m.born, true
	case m.owes == 0:
		return 0, 0, false
	case m.fresh:
		event = api.EvNew
	}
	m.fresh = false
	m.owes--
	return event, m.born, true
}

func (m *model) state() int {
	switch {
	case m.leave:
		return table.LA
	case !m.speaks:
		return table.VO
	}
	return []int{table.QA, table.AA, table.VN}[m.owes]
}

// kinds are how many things may happen to an applicant.
const kinds = 6

// move does one thing to an applicant and to its model, and fails unless both answer the same.
func move(t *testing.T, a *App, m *model, kind, born int) {
	t.Helper()
	switch kind {
	case 0, 1:
		a.Want(born, kind == 1)
		m.want(born, kind == 1)
	case 2:
		a.Want(-1-born, born%2 == 0)
		m.want(-1-born, born%2 == 0)
	case 3:
		a.All()
		m.ask()
	case 4:
		a.Again()
		m.ask()
	default:
		event, tick, any := m.say()
		if e, b, is := a.Say(); e != event || b != tick || is != any {
			t.Fatalf("Say: %d, %d, %v, not %d, %d, %v", e, b, is, event, tick, any)
		}
	}
	is(t, a, m.state())
}

// TestEveryOrder: all rows of so many things, one by one.
func TestEveryOrder(t *testing.T) {
	const long = 7
	rows := 1
	for range long {
		rows *= kinds
	}
	seen := make([]int, len(states))
	for row := range rows {
		a, m := &App{}, &model{}
		for i, rest := 0, row; i < long; i, rest = i+1, rest/kinds {
			move(t, a, m, rest%kinds, i)
		}
		seen[a.State()]++
	}
	if slices.Min(seen) < 1000 {
		t.Errorf("too few: %v", seen)
	}
}

func TestDrawn(t *testing.T) {
	d := rand.New(rand.NewSource(15))
	seen := make([]int, len(states))
	for range 200 {
		a, m := &App{}, &model{}
		for range 1000 {
			move(t, a, m, d.Intn(kinds), ticks[d.Intn(len(ticks))])
			seen[a.State()]++
		}
	}
	if slices.Min(seen) < 1000 {
		t.Errorf("too few: %v", seen)
	}
}

// TestAskingChangesNothing: however often it is asked what it is.
func TestAskingChangesNothing(t *testing.T) {
	for _, state := range states {
		a := in(t, state, 7)
		before := *a
		for range 5 {
			is(t, a, state)
		}
		if *a != before {
			t.Errorf("%v, not %v", *a, before)
		}
	}
}

// heardBy is what the other end of a way holds, by the words that come to it: whether it has the attribute, how often it came and went, and how often it was told that it leaves.
type heardBy struct {
	has                bool
	begins, ends, told int
}

func (h *heardBy) hear(a *App) {
	event, _, any := a.Say()
	switch {
	case any && event == api.EvLv:
		h.told++
		if h.has {
			h.ends++
		}
		h.has = false
	case any:
		if !h.has {
			h.begins++
		}
		h.has = true
	}
}

// TestTheOtherEndFollows: whoever hears all that is said has it as soon as something may be said, as long as it is to be said; it is told that it leaves just once each time.
func TestTheOtherEndFollows(t *testing.T) {
	d := rand.New(rand.NewSource(151))
	begins, ends := 0, 0
	for range 200 {
		a, h := &App{}, &heardBy{}
		for now := range 300 {
			switch d.Intn(8) {
			case 0, 1:
				a.Want(now, d.Intn(2) == 0)
			case 2:
				a.Want(-1, false)
			case 3:
				a.All()
			case 4:
				a.Again()
			}
			h.hear(a)
			if h.has != a.Speaks() || h.told != h.ends {
				t.Fatalf("at %d: the other end: %v, it is to be said: %v; it went %d times, and was told so %d times", now, h.has, a.Speaks(), h.ends, h.told)
			}
		}
		begins += h.begins
		ends += h.ends
	}
	if min(begins, ends) < 1000 {
		t.Errorf("too few: %d, %d", begins, ends)
	}
}
