package table

import (
	"math"
	"math/rand"
	"slices"
	"strconv"
	"strings"
	"testing"
)

// The tables as the chapter tells of them: of each state the states that come, and the acts.
const (
	registrar = `
MT: IN 3, MT 0, MT 0, MT 0, MT 0
LV: IN 2, LV 0, LV 0, MT 4, MT 4
IN: IN 0, LV 1, LV 1, IN 0, MT 4`
	applicant = `
VO: VN 0, VO 0, VO 0, VO 0, VO 0, VN 0
VN: VN 0, LA 0, VN 0, VN 0, AA 1, VN 0
AA: AA 0, LA 0, AA 0, AA 0, QA 2, VN 0
QA: QA 0, LA 0, AA 0, AA 0, QA 0, VN 0
LA: AA 0, LA 0, LA 0, LA 0, VO 3, VN 0`
)

// far are numbers that are neither states nor events of any table here.
var far = []int{math.MinInt, math.MinInt + 1, -1 << 32, -1<<32 + 1, -256, -2, -1, 1 << 16, 1 << 32, 1<<32 + 1, 1 << 62, math.MaxInt - 1, math.MaxInt}

// told answers the table that a text tells of.
func told(t *testing.T, text string) Table {
	t.Helper()
	lines := strings.Split(strings.TrimSpace(text), "\n")
	var names []string
	for _, line := range lines {
		names = append(names, line[:2])
	}
	var table Table
	for _, line := range lines {
		var row []Cell
		for _, cell := range strings.Split(line[4:], ", ") {
			act, err := strconv.Atoi(cell[3:])
			next := slices.Index(names, cell[:2])
			if err != nil || next < 0 {
				t.Fatalf("%q", cell)
			}
			row = append(row, Cell{next, act})
		}
		table = append(table, row)
	}
	return table
}

func same(a, b Table) bool {
	return slices.EqualFunc(a, b, func(x, y []Cell) bool { return slices.Equal(x, y) })
}

func copied(t Table) Table {
	var list Table
	for _, row := range t {
		list = append(list, slices.Clone(row))
	}
	return list
}

// to answers a row of cells that lead to those states.
func to(states ...int) []Cell {
	row := []Cell{}
	for _, s := range states {
		row = append(row, Cell{Next: s})
	}
	return row
}

// good fails unless Good answers so.
func good(t *testing.T, table Table, want bool) {
	t.Helper()
	if Good(table) != want {
		t.Errorf("Good(%v): %v", table, !want)
	}
}

// runs fails unless a machine comes by those cells.
func runs(t *testing.T, table Table, state int, events []int, want ...Cell) {
	t.Helper()
	if got := Run(table, state, events...); !slices.Equal(got, want) {
		t.Errorf("Run(%v, %d, %v): %v, not %v", table, state, events, got, want)
	}
}

// reaches fails unless a machine may come to just those states.
func reaches(t *testing.T, table Table, state int, want ...int) {
	t.Helper()
	if got := Reach(table, state); !slices.Equal(got, want) {
		t.Errorf("Reach(%v, %d): %v, not %v", table, state, got, want)
	}
}

// drawn answers a table of up to so many states: its rows are of one length or of several, and some cells may lead to no state.
func drawn(r *rand.Rand, states int) Table {
	table := make(Table, r.Intn(states+1))
	ragged, astray, events := r.Intn(3) == 0, r.Intn(3) == 0, r.Intn(4)
	for i := range table {
		if ragged {
			events = r.Intn(4)
		}
		for range events {
			c := Cell{r.Intn(len(table)), r.Intn(9) - 2}
			if astray && r.Intn(5) == 0 {
				c.Next = append([]int{len(table), len(table) + 1}, far...)[r.Intn(2+len(far))]
			}
			table[i] = append(table[i], c)
		}
	}
	return table
}

func TestNumbers(t *testing.T) {
	states := []int{MT, LV, IN, VO, VN, AA, QA, LA}
	events := []int{RJoin, RLv, RAll, RTimer, RFlush, AJoin, ALv, AAll, APeriodic, ATx, ANew}
	acts := []int{ActNone, ActStart, ActStop, ActEnter, ActGo, SayNew, SayJoin, SayLeave}
	if !slices.Equal(states, []int{0, 1, 2, 0, 1, 2, 3, 4}) ||
		!slices.Equal(events, []int{0, 1, 2, 3, 4, 0, 1, 2, 3, 4, 5}) ||
		!slices.Equal(acts, []int{0, 1, 2, 3, 4, 1, 2, 3}) {
		t.Errorf("%v, %v, %v", states, events, acts)
	}
}

func TestTables(t *testing.T) {
	if got := Registrar(); !same(got, told(t, registrar)) {
		t.Errorf("the registrar: %v", got)
	}
	if got := Applicant(); !same(got, told(t, applicant)) {
		t.Errorf("the applicant: %v", got)
	}
	good(t, Registrar(), true)
	good(t, Applicant(), true)
}

// TestTablesAreNewMemory: what is written into one, spare room included, is seen in no other one, nor in its own other rows.
func TestTablesAreNewMemory(t *testing.T) {
	for _, build := range []func() Table{Registrar, Applicant} {
		want, table, other := copied(build()), build(), build()
		for i := range table {
			for k := range table[i] {
				table[i][k] = Cell{-7, -7}
			}
			_ = append(table[i], Cell{-8, -8}, Cell{-8, -8})
			for k := i + 1; k < len(table); k++ {
				if !slices.Equal(table[k], want[k]) {
					t.Errorf("the row %d, behind the row %d: %v", k, i, table[k])
				}
			}
		}
		table[0] = nil
		_ = append(table[:1], nil, nil)
		if !same(other, want) || !same(build(), want) {
			t.Errorf("%v, %v, not %v", other, build(), want)
		}
	}
}

func TestGoodHasStates(t *testing.T) {
	good(t, nil, false)
	good(t, Table{}, false)
	good(t, make(Table, 0, 5), false)
}

// TestGoodOfNoEvents: such states have all as many cells, and there is none that leads nowhere.
func TestGoodOfNoEvents(t *testing.T) {
	good(t, Table{{}}, true)
	good(t, Table{nil}, true)
	good(t, Table{nil, {}, nil}, true)
	good(t, Table{nil, {}, to(0)}, false)
	good(t, Table{to(0), {}, nil}, false)
}

func TestGoodByRows(t *testing.T) {
	good(t, Table{to(0)}, true)
	good(t, Table{to(0, 0, 0)}, true)
	good(t, Table{to(1, 0), to(0, 1)}, true)
	good(t, Table{to(1, 0), to(0)}, false)
	good(t, Table{to(1), to(0, 1)}, false)
	good(t, Table{to(1), to(0), to(2), to(1, 1)}, false)
	good(t, Table{to(1), to(0, 1), to(2), to(1)}, false)
	good(t, Table{to(1)[:1:1], append(to(0), Cell{9, 0})[:1]}, true) // spare room is none of it
}

func TestGoodByWhereCellsLead(t *testing.T) {
	for _, next := range append([]int{3, 4, 256, 257}, far...) {
		for state := range 3 {
			for event := range 3 {
				table := Table{to(0, 1, 2), to(2, 2, 2), to(1, 0, 0)}
				good(t, table, true)
				table[state][event].Next = next
				good(t, table, false)
			}
		}
	}
}

// TestGoodOfAllActs: acts may be any.
func TestGoodOfAllActs(t *testing.T) {
	for _, act := range append([]int{0, 1, 4, 5, 99}, far...) {
		good(t, Table{{{0, act}}}, true)
	}
}

func TestGoodOfDrawn(t *testing.T) {
	r := rand.New(rand.NewSource(13))
	seen := map[bool]int{}
	for range 5000 {
		table := drawn(r, 4)
		want := len(table) > 0
		for _, row := range table {
			for _, c := range row {
				want = want && c.Next >= 0 && c.Next < len(table)
			}
			want = want && len(row) == len(table[len(table)-1])
		}
		good(t, table, want)
		seen[want]++
	}
	if seen[true] < 1000 || seen[false] < 1000 {
		t.Errorf("too few: %v", seen)
	}
}

func TestAt(t *testing.T) {
	for _, text := range []string{registrar, applicant} {
		want, table := told(t, text), Registrar()
		if text == applicant {
			table = Applicant()
		}
		for state := -9; state < 20; state++ {
			for event := -9; event < 20; event++ {
				cell, there := Cell{Next: state}, false
				if state >= 0 && state < len(want) && event >= 0 && event < len(want[0]) {
					cell, there = want[state][event], true
				}
				if got, is := At(table, state, event); got != cell || is != there {
					t.Errorf("At(%d, %d): %v, %v", state, event, got, is)
				}
			}
		}
	}
}

// TestAtNone: the cell leads to the state that was asked for, though that is none.
func TestAtNone(t *testing.T) {
	for _, table := range []Table{nil, {}, {nil}, {{}}, {to(0)}, Registrar(), Applicant()} {
		for _, n := range far {
			for _, event := range append([]int{0, 1, 4}, far...) {
				if got, is := At(table, n, event); is || got != (Cell{Next: n}) {
					t.Errorf("At(%v, %d, %d): %v, %v", table, n, event, got, is)
				}
			}
			for state := range 6 {
				if got, is := At(table, state, n); is || got != (Cell{Next: state}) {
					t.Errorf("At(%v, %d, %d): %v, %v", table, state, n, got, is)
				}
			}
		}
	}
}

// TestAtOfWhatCannotBe: a state has the cells that it has, though others have more, and each is answered as it stands, though it leads to no state.
func TestAtOfWhatCannotBe(t *testing.T) {
	table := Table{{{1, 5}}, nil, {{-3, 7}, {99, -1}, {math.MinInt, math.MaxInt}}}
	for state, row := range table {
		for event := range 4 {
			want, there := Cell{Next: state}, event < len(row)
			if there {
				want = row[event]
			}
			if got, is := At(table, state, event); got != want || is != there {
				t.Errorf("At(%d, %d): %v, %v", state, event, got, is)
			}
		}
	}
	spare := Table{to(0, 0)[:1], to(1, 1)}[:1]
	for _, c := range [][2]int{{0, 1}, {1, 0}} {
		if got, is := At(spare, c[0], c[1]); is || got != (Cell{Next: c[0]}) {
			t.Errorf("%v: %v, %v", c, got, is)
		}
	}
}

func TestExample(t *testing.T) {
	runs(t, Registrar(), MT, []int{RJoin, RLv, RTimer}, Cell{IN, ActEnter}, Cell{LV, ActStart}, Cell{MT, ActGo})
}

func TestRun(t *testing.T) {
	runs(t, Registrar(), LV, []int{RAll, RJoin, RAll, RFlush, RFlush}, Cell{LV, ActNone}, Cell{IN, ActStop}, Cell{LV, ActStart}, Cell{MT, ActGo}, Cell{MT, ActNone})
	runs(t, Applicant(), VO, []int{ANew, ATx, ATx, ATx, ALv, ATx, ATx}, Cell{VN, 0}, Cell{AA, SayNew}, Cell{QA, SayJoin}, Cell{QA, 0}, Cell{LA, 0}, Cell{VO, SayLeave}, Cell{VO, 0})
	runs(t, Applicant(), QA, []int{APeriodic, ATx, ANew, ALv, AJoin}, Cell{AA, 0}, Cell{QA, SayJoin}, Cell{VN, 0}, Cell{LA, 0}, Cell{AA, 0})
	runs(t, Applicant(), VO, []int{AJoin, ATx, ATx, AAll, ATx}, Cell{VN, 0}, Cell{AA, SayNew}, Cell{QA, SayJoin}, Cell{AA, 0}, Cell{QA, SayJoin})
}

func TestRunOfNoEvents(t *testing.T) {
	for _, table := range []Table{nil, {nil}, Registrar()} {
		for _, state := range append([]int{0, 1, 2, 3}, far...) {
			runs(t, table, state, nil)
			runs(t, table, state, []int{})
		}
	}
	if len(Run(Registrar(), MT)) != 0 {
		t.Error("no events")
	}
}

// TestRunPassesOver: an event without a cell has none in the answer either, and leaves the state as it is.
func TestRunPassesOver(t *testing.T) {
	for _, n := range append([]int{5, 6, 9}, far...) {
		runs(t, Registrar(), MT, []int{n})
		runs(t, Registrar(), MT, []int{n, RJoin, n, n, RLv, n, RTimer, n}, Cell{IN, ActEnter}, Cell{LV, ActStart}, Cell{MT, ActGo})
	}
	runs(t, Registrar(), MT, []int{ANew, RJoin}, Cell{IN, ActEnter})
}

func TestRunFromNoState(t *testing.T) {
	for _, state := range append([]int{3, 4}, far...) {
		runs(t, Registrar(), state, []int{RJoin, RLv, 0, 1, 2, 3, 4})
		runs(t, nil, state, []int{0})
	}
	runs(t, nil, 0, []int{0, 1})
	runs(t, Table{nil}, 0, []int{0, 1})
}

// TestRunLedAstray: the cell that leads to no state is answered; from there on no event has one.
func TestRunLedAstray(t *testing.T) {
	for _, n := range append([]int{2, 3}, far...) {
		table := Table{{{1, 4}, {0, 6}}, {{0, 3}, {n, 8}}}
		runs(t, table, 0, []int{1, 0, 1, 0, 1, 0, 1}, Cell{0, 6}, Cell{1, 4}, Cell{n, 8})
	}
}

// TestRunByEachState: an event may have a cell in one state, and none in another one.
func TestRunByEachState(t *testing.T) {
	table := Table{{{1, 1}}, {{1, 2}, {2, 3}}, {{2, 4}, {2, 5}, {0, 6}}}
	runs(t, table, 0, []int{2, 1, 0, 2, 1, 1, 2, 1, 2, 0}, Cell{1, 1}, Cell{2, 3}, Cell{2, 5}, Cell{0, 6}, Cell{1, 1})
}

func TestRunOfDrawn(t *testing.T) {
	r := rand.New(rand.NewSource(131))
	long := 0
	for range 5000 {
		table, state := drawn(r, 5), r.Intn(6)-1
		events := make([]int, r.Intn(30))
		for i := range events {
			events[i] = r.Intn(6) - 1
		}
		var want []Cell
		for i, s := 0, state; i < len(events); i++ {
			if e := events[i]; s >= 0 && s < len(table) && e >= 0 && e < len(table[s]) {
				want = append(want, table[s][e])
				s = table[s][e].Next
			}
		}
		runs(t, table, state, events, want...)
		long = max(long, len(want))
	}
	if long < 15 {
		t.Errorf("too short: %d", long)
	}
}

// TestRunIsLong: of many events each one has its cell.
func TestRunIsLong(t *testing.T) {
	events := make([]int, 1<<20)
	got := Run(Table{to(1), to(2), to(0)}, 0, events...)
	if len(got) != len(events) {
		t.Fatalf("%d", len(got))
	}
	for i, c := range got {
		if c.Next != (i+1)%3 {
			t.Fatalf("%d: %v", i, c)
		}
	}
}

func TestReach(t *testing.T) {
	for state := range 3 {
		reaches(t, Registrar(), state, MT, LV, IN)
	}
	for state := range 5 {
		reaches(t, Applicant(), state, VO, VN, AA, QA, LA)
	}
	table := Table{to(2, 2), to(0, 0), to(4, 2), to(1, 3), to(4, 0)}
	reaches(t, table, 0, 0, 2, 4)
	reaches(t, table, 2, 0, 2, 4)
	reaches(t, table, 1, 0, 1, 2, 4)
	reaches(t, table, 3, 0, 1, 2, 3, 4)
}

// TestReachWithItself: a state to which nothing leads, and from which nothing does, is reached from itself.
func TestReachWithItself(t *testing.T) {
	reaches(t, Table{nil}, 0, 0)
	reaches(t, Table{{}, {}, {}}, 1, 1)
	reaches(t, Table{to(1), to(1)}, 1, 1)
	reaches(t, Table{to(1), to(1)}, 0, 0, 1)
}

func TestReachFromNoState(t *testing.T) {
	for _, state := range append([]int{3, 4}, far...) {
		reaches(t, Registrar(), state)
		reaches(t, nil, state)
		reaches(t, Table{to(state), to(0)}, state)
	}
	reaches(t, nil, 0)
	reaches(t, Table{}, 0)
}

func TestReachLedAstray(t *testing.T) {
	for _, n := range append([]int{3, 4, 5}, far...) {
		reaches(t, Table{to(n), nil, nil}, 0, 0)
		reaches(t, Table{to(n, 2, n), to(0), to(n, n)}, 0, 0, 2)
		reaches(t, Table{to(n, 2, n), to(0), to(n, n)}, 1, 0, 1, 2)
	}
}

// TestReachByRows: rows may be of several lengths.
func TestReachByRows(t *testing.T) {
	table := Table{to(0, 0, 3), nil, to(1), to(2)}
	reaches(t, table, 0, 0, 1, 2, 3)
	reaches(t, table, 1, 1)
	reaches(t, table, 2, 1, 2)
	reaches(t, table, 3, 1, 2, 3)
}

// TestReachOfDrawn holds it against ways of one cell, two cells, and so on.
func TestReachOfDrawn(t *testing.T) {
	r := rand.New(rand.NewSource(132))
	some, all := 0, 0
	for range 5000 {
		table := drawn(r, 7)
		for from := -1; from <= len(table); from++ {
			at := make([]bool, len(table))
			if from >= 0 && from < len(table) {
				at[from] = true
			}
			for range table {
				for s, row := range table {
					for _, c := range row {
						if at[s] && c.Next >= 0 && c.Next < len(table) {
							at[c.Next] = true
						}
					}
				}
			}
			var want []int
			for s, is := range at {
				if is {
					want = append(want, s)
				}
			}
			reaches(t, table, from, want...)
			if len(want) == len(table) {
				all++
			} else if len(want) > 1 {
				some++
			}
		}
	}
	if some < 1000 || all < 1000 {
		t.Errorf("too few: %d, %d", some, all)
	}
}

// TestReachIsFar: a state may lie behind many others.
func TestReachIsFar(t *testing.T) {
	const states = 1 << 19
	table := make(Table, states)
	for i := range table {
		table[i] = to((i+states-1)%states, i)
	}
	got := Reach(table, 5)
	if len(got) != states {
		t.Fatalf("%d", len(got))
	}
	for i, s := range got {
		if i != s {
			t.Fatalf("%d: %d", i, s)
		}
	}
}

// TestNothingIsChanged: of what is handed in, nor is it kept.
func TestNothingIsChanged(t *testing.T) {
	r := rand.New(rand.NewSource(133))
	for range 500 {
		table := drawn(r, 5)
		events := []int{0, 9, 2, -1, 1, 0, 1}[:5]
		before := copied(table)
		Good(table)
		At(table, 1, 1)
		cells, states := Run(table, 0, events...), Reach(table, 0)
		for i := range cells {
			cells[i] = Cell{-7, -7}
		}
		for i := range states {
			states[i] = -7
		}
		_ = append(cells, Cell{-8, -8})
		if !same(table, before) || !slices.Equal(events[:7], []int{0, 9, 2, -1, 1, 0, 1}) {
			t.Fatalf("%v, %v", table, events[:7])
		}
	}
}

// TestAnswersAreNewMemory: one answer is not seen in another one.
func TestAnswersAreNewMemory(t *testing.T) {
	events := []int{RJoin, RLv, RTimer}
	table := Registrar()
	cells, states := Run(table, MT, events...), Reach(table, MT)
	runs(t, table, IN, []int{RFlush, RJoin, RJoin}, Cell{MT, ActGo}, Cell{IN, ActEnter}, Cell{IN, ActNone})
	reaches(t, Table{nil, to(2), to(1)}, 1, 1, 2)
	events[0], table[0] = 9, nil
	table[1][0], table[2][0] = Cell{9, 9}, Cell{9, 9}
	if !slices.Equal(cells, []Cell{{IN, ActEnter}, {LV, ActStart}, {MT, ActGo}}) || !slices.Equal(states, []int{MT, LV, IN}) {
		t.Errorf("%v, %v", cells, states)
	}
}

// orders calls f of all rows of so many events at most, each of so many kinds, and an event that there isn't among them.
func orders(kinds, longest int, f func(events []int)) {
	events := make([]int, 0, longest)
	var more func()
	more = func() {
		f(slices.Clone(events))
		for e := 0; e <= kinds && len(events) < longest; e++ {
			events = append(events, e)
			more()
			events = events[:len(events)-1]
		}
	}
	more()
}

// last answers the state to which a machine has come at last.
func last(state int, cells []Cell) int {
	if len(cells) > 0 {
		return cells[len(cells)-1].Next
	}
	return state
}

// TestRegistrarBehindJoinAndFlush: whatever was ahead.
func TestRegistrarBehindJoinAndFlush(t *testing.T) {
	for state := MT; state <= IN; state++ {
		orders(5, 4, func(ahead []int) {
			if got := last(state, Run(Registrar(), state, append(ahead, RJoin)...)); got != IN {
				t.Errorf("from %d by %v, RJoin: %d", state, ahead, got)
			}
			if got := last(state, Run(Registrar(), state, append(ahead, RFlush)...)); got != MT {
				t.Errorf("from %d by %v, RFlush: %d", state, ahead, got)
			}
		})
	}
}

// TestRegistrarByTurns: it enters, and goes, by turns, just as it comes to be registered, and isn't any more.
func TestRegistrarByTurns(t *testing.T) {
	for state := MT; state <= IN; state++ {
		orders(5, 5, func(events []int) {
			inside := state != MT
			for _, c := range Run(Registrar(), state, events...) {
				if (c.Act == ActEnter) != (!inside && c.Next != MT) || (c.Act == ActGo) != (inside && c.Next == MT) {
					t.Fatalf("from %d by %v: %v, while it was registered: %v", state, events, c, inside)
				}
				inside = c.Next != MT
			}
		})
	}
}

// TestRegistrarLeaves: the time to leave begins as it comes to leave, and is over as it is registered again, each time.
func TestRegistrarLeaves(t *testing.T) {
	orders(5, 5, func(events []int) {
		state := MT
		for _, c := range Run(Registrar(), MT, events...) {
			if (c.Act == ActStart) != (state == IN && c.Next == LV) || (c.Act == ActStop) != (state == LV && c.Next == IN) {
				t.Fatalf("by %v: from %d %v", events, state, c)
			}
			state = c.Next
		}
	})
}

// said answers what of an applicant's acts says something.
func said(cells []Cell) []int {
	var list []int
	for _, c := range cells {
		if c.Act != 0 {
			list = append(list, c.Act)
		}
	}
	return list
}

// TestApplicantLeavesAtLast: if it was told to leave behind all else, and something could be said then, what it says last is that it leaves.
func TestApplicantLeavesAtLast(t *testing.T) {
	for state := VO; state <= LA; state++ {
		orders(6, 4, func(ahead []int) {
			for _, behind := range [][]int{{ATx}, {ATx, ATx, APeriodic, ATx}, {AAll, ATx}, {APeriodic, ALv, 9, ATx, AAll, ATx}} {
				events := slices.Concat(ahead, []int{ALv}, behind)
				cells := Run(Applicant(), state, events...)
				words := said(cells)
				wanted := state != VO || slices.ContainsFunc(ahead, func(e int) bool { return e == AJoin || e == ANew })
				switch {
				case last(state, cells) != VO:
					t.Fatalf("from %d by %v: the state %d", state, events, last(state, cells))
				case !wanted && len(words) != 0:
					t.Fatalf("from %d by %v: it says %v of nothing", state, events, words)
				case wanted && (len(words) == 0 || words[len(words)-1] != SayLeave):
					t.Fatalf("from %d by %v: it says %v", state, events, words)
				}
			}
		})
	}
}

// TestApplicantSays: it says something only where something may be said, and that it leaves just where it was to leave.
func TestApplicantSays(t *testing.T) {
	orders(6, 5, func(events []int) {
		state, at := VO, 0
		for _, e := range events {
			if e > ANew {
				continue
			}
			c := Run(Applicant(), VO, events...)[at]
			if (c.Act != 0) != (e == ATx && (state == VN || state == AA || state == LA)) || (c.Act == SayLeave) != (e == ATx && state == LA) {
				t.Fatalf("by %v: from %d by %d %v", events, state, e, c)
			}
			state = c.Next
			at++
		}
	})
}

// TestApplicantSaysOnceMore: what was said is said once more, and just once, when all is asked for, or when it is to be said again.
func TestApplicantSaysOnceMore(t *testing.T) {
	orders(6, 4, func(ahead []int) {
		if last(VO, Run(Applicant(), VO, ahead...)) != QA {
			return
		}
		for _, asked := range []int{AAll, APeriodic} {
			cells := Run(Applicant(), VO, append(slices.Clone(ahead), asked, asked, ATx, ATx)...)
			if got := said(cells[len(cells)-4:]); !slices.Equal(got, []int{SayJoin}) {
				t.Errorf("by %v, %d: it says %v", ahead, asked, got)
			}
		}
	})
	if got := said(Run(Applicant(), QA, ATx, ATx)); len(got) != 0 {
		t.Errorf("unasked it says %v", got)
	}
}
