package wheel

import (
	"maps"
	"math"
	"math/rand"
	"slices"
	"testing"

	"kissgate/api"
)

// keys are keys of all kinds, in order.
var keys = []int{math.MinInt, math.MinInt + 1, -1 << 32, -7, -1, 0, 1, 2, 7, 1 << 32, math.MaxInt - 1, math.MaxInt}

// with answers a wheel with timers.
func with(t *testing.T, timers ...Timer) *Wheel {
	t.Helper()
	w := New()
	for _, x := range timers {
		set(t, w, x.Key, x.Due)
	}
	return w
}

// set sets a timer that can be.
func set(t *testing.T, w *Wheel, key, due int) {
	t.Helper()
	if e := w.Set(key, due); e != api.OK {
		t.Fatalf("Set(%d, %d): %d", key, due, e)
	}
}

// holds fails unless a wheel has just those timers, in order, and tells of each when it is due.
func holds(t *testing.T, w *Wheel, want ...Timer) {
	t.Helper()
	if got := w.All(); !slices.Equal(got, want) {
		t.Fatalf("%v, not %v", got, want)
	}
	for _, x := range want {
		if due := w.Due(x.Key); due != x.Due {
			t.Fatalf("Due(%d): %d, not %d", x.Key, due, x.Due)
		}
	}
}

// pops fails unless just those keys pop, in that order.
func pops(t *testing.T, w *Wheel, now int, want ...int) {
	t.Helper()
	if got := w.Pop(now); !slices.Equal(got, want) {
		t.Fatalf("Pop(%d): %v, not %v", now, got, want)
	}
}

// hasNone fails unless a key has no timer.
func hasNone(t *testing.T, w *Wheel, key int) {
	t.Helper()
	if due := w.Due(key); due != -1 {
		t.Fatalf("Due(%d): %d", key, due)
	}
}

func TestExample(t *testing.T) {
	w := with(t, Timer{Due: 5, Key: 1}, Timer{Due: 3, Key: 2})
	pops(t, w, 4, 2)
	holds(t, w, Timer{Due: 5, Key: 1})
}

func TestNothing(t *testing.T) {
	w := New()
	holds(t, w)
	for _, n := range keys {
		hasNone(t, w, n)
		w.Stop(n)
		pops(t, w, n)
	}
	holds(t, w)
}

// TestInOrder: they are by when they are due, then by their keys, whichever came first.
func TestInOrder(t *testing.T) {
	want := []Timer{{0, -4}, {0, 3}, {1, 9}, {5, -1}, {5, 0}, {5, 1}, {5, 10}, {7, -9}, {math.MaxInt, 2}}
	r := rand.New(rand.NewSource(9))
	for range 200 {
		mixed := slices.Clone(want)
		r.Shuffle(len(mixed), func(i, j int) { mixed[i], mixed[j] = mixed[j], mixed[i] })
		w := with(t, mixed...)
		holds(t, w, want...)
		pops(t, w, 5, -4, 3, 9, -1, 0, 1, 10)
		holds(t, w, want[7:]...)
		pops(t, w, math.MaxInt, -9, 2)
		holds(t, w)
	}
}

func TestFarKeys(t *testing.T) {
	w := New()
	var all []Timer
	for _, key := range slices.Backward(keys) {
		set(t, w, key, 6)
	}
	for _, key := range keys {
		all = append(all, Timer{Due: 6, Key: key})
	}
	holds(t, w, all...)
	pops(t, w, 5)
	pops(t, w, 6, keys...)
	for _, key := range keys {
		hasNone(t, w, key)
	}
}

// TestKeysFarApart: they are in order, though the difference between them goes round; the timer between them by its key isn't between them by its tick.
func TestKeysFarApart(t *testing.T) {
	for _, low := range keys[:5] {
		for _, high := range keys[6:] {
			w := with(t, Timer{6, high}, Timer{3, 0}, Timer{6, low})
			holds(t, w, Timer{3, 0}, Timer{6, low}, Timer{6, high})
			pops(t, w, 6, 0, low, high)
		}
	}
}

func TestFarTicks(t *testing.T) {
	w := with(t, Timer{Due: math.MaxInt, Key: 1}, Timer{Due: 0, Key: 2}, Timer{Due: math.MaxInt - 1, Key: 3})
	for _, now := range []int{math.MinInt, -1 << 32, -1} {
		pops(t, w, now)
	}
	holds(t, w, Timer{0, 2}, Timer{math.MaxInt - 1, 3}, Timer{math.MaxInt, 1})
	pops(t, w, 0, 2)
	pops(t, w, math.MaxInt-2)
	pops(t, w, math.MaxInt-1, 3)
	pops(t, w, math.MaxInt, 1)
}

// TestSetAgain: the timer that a key had is gone, whether it was due sooner, later, or then.
func TestSetAgain(t *testing.T) {
	for before := range 5 {
		for behind := range 5 {
			w := with(t, Timer{Due: 2, Key: 1}, Timer{Due: before, Key: 2}, Timer{Due: 2, Key: 3})
			set(t, w, 2, behind)
			if len(w.All()) != 3 || w.Due(2) != behind {
				t.Fatalf("%d, then %d: %v", before, behind, w.All())
			}
			var want []int
			for now := range 5 {
				want = want[:0]
				for key, due := range []int{1: 2, 2: behind, 3: 2} {
					if key > 0 && due == now {
						want = append(want, key)
					}
				}
				pops(t, w, now, want...)
			}
		}
	}
}

func TestSetOfWhatCannotBe(t *testing.T) {
	w := with(t, Timer{Due: 4, Key: 1})
	for _, due := range []int{-1, -2, -1 << 20, -1 << 32, math.MinInt + 4, math.MinInt} {
		for _, key := range []int{0, 1, 2, -1} {
			if e := w.Set(key, due); e != api.ErrArg {
				t.Errorf("Set(%d, %d): %d", key, due, e)
			}
		}
		holds(t, w, Timer{Due: 4, Key: 1})
		hasNone(t, w, 0)
	}
}

func TestStop(t *testing.T) {
	for _, key := range keys {
		w := New()
		var want []Timer
		for i, other := range keys {
			set(t, w, other, i)
			if other != key {
				want = append(want, Timer{Due: i, Key: other})
			}
		}
		w.Stop(key)
		hasNone(t, w, key)
		holds(t, w, want...)
		w.Stop(key)
		holds(t, w, want...)
		w.Stop(3)
		holds(t, w, want...)
		set(t, w, key, 20)
		holds(t, w, append(want, Timer{Due: 20, Key: key})...)
	}
}

func TestDueAtZeroIsATimer(t *testing.T) {
	w := with(t, Timer{Due: 0, Key: 0})
	holds(t, w, Timer{})
	if w.Due(0) != 0 {
		t.Errorf("Due(0): %d", w.Due(0))
	}
	pops(t, w, 0, 0)
	hasNone(t, w, 0)
}

// TestPopAtTheEdge: what is due at the tick pops, and what is due one behind it doesn't.
func TestPopAtTheEdge(t *testing.T) {
	for now := range 40 {
		w := with(t, Timer{now + 1, 1}, Timer{now, 2}, Timer{max(now-1, 0), 3})
		if now == 0 {
			pops(t, w, now, 2, 3)
		} else {
			pops(t, w, now, 3, 2)
		}
		holds(t, w, Timer{now + 1, 1})
		pops(t, w, now)
	}
}

// TestTicksGoBack: a tick that is asked for isn't held against those before.
func TestTicksGoBack(t *testing.T) {
	w := with(t, Timer{Due: 9, Key: 1}, Timer{Due: 50, Key: 2})
	pops(t, w, 40, 1)
	set(t, w, 3, 4)
	pops(t, w, 3)
	pops(t, w, -8)
	set(t, w, 1, 4)
	set(t, w, 2, 2)
	pops(t, w, 3, 2)
	pops(t, w, 4, 1, 3)
	holds(t, w)
}

// TestWhatPoppedComesAgain only where it is set again.
func TestWhatPoppedComesAgain(t *testing.T) {
	w := New()
	for now := range 100 {
		set(t, w, 7, now)
		set(t, w, 8, now+1)
		pops(t, w, now, 7)
		pops(t, w, now)
		holds(t, w, Timer{now + 1, 8})
	}
}

func TestAnswersShareNothing(t *testing.T) {
	w := with(t, Timer{1, 1}, Timer{2, 2}, Timer{3, 3}, Timer{4, 4})
	first, second := w.All(), w.All()
	for i := range first {
		first[i] = Timer{-5, -5}
	}
	_ = append(first[:1], Timer{-6, -6}, Timer{-7, -7})
	want := []Timer{{1, 1}, {2, 2}, {3, 3}, {4, 4}}
	if !slices.Equal(second, want) {
		t.Errorf("%v", second)
	}
	holds(t, w, want...)
	popped := w.Pop(2)
	popped[0], popped[1] = 3, 4
	holds(t, w, want[2:]...)
	set(t, w, 9, 9)
	set(t, w, 0, 0)
	if !slices.Equal(popped, []int{3, 4}) || !slices.Equal(second, want) {
		t.Errorf("%v, %v", popped, second)
	}
	pops(t, w, 9, 0, 3, 4, 9)
	if !slices.Equal(popped, []int{3, 4}) {
		t.Errorf("%v", popped)
	}
}

func TestWheelsAreApart(t *testing.T) {
	a, b := with(t, Timer{1, 1}), with(t, Timer{2, 1})
	a.Stop(5)
	b.Stop(1)
	holds(t, a, Timer{1, 1})
	holds(t, b)
}

func TestNilWheel(t *testing.T) {
	var w *Wheel
	for _, n := range keys {
		for _, due := range keys {
			if e := w.Set(n, due); e != api.ErrNil {
				t.Errorf("Set(%d, %d): %d", n, due, e)
			}
		}
		w.Stop(n)
		hasNone(t, w, n)
		pops(t, w, n)
	}
	holds(t, w)
}

// model is a wheel as the chapter tells of it, without any order of its own.
type model map[int]int

func (m model) all() []Timer {
	var list []Timer
	for key, due := range m {
		list = append(list, Timer{Due: due, Key: key})
	}
	slices.SortFunc(list, func(a, b Timer) int {
		switch {
		case a == b:
			return 0
		case a.Due < b.Due || a.Due == b.Due && a.Key < b.Key:
			return -1
		}
		return 1
	})
	return list
}

func (m model) pop(now int) []int {
	var list []int
	for _, x := range m.all() {
		if x.Due <= now {
			list = append(list, x.Key)
			delete(m, x.Key)
		}
	}
	return list
}

// TestEveryOrder holds a wheel against the model in calls of all kinds, in rows that are drawn.
func TestEveryOrder(t *testing.T) {
	r := rand.New(rand.NewSource(90))
	for round := range 300 {
		w, m := New(), model{}
		span := 1 + r.Intn(40)
		for range 200 {
			key, tick := r.Intn(span)-span/2, r.Intn(span+4)-4
			switch r.Intn(8) {
			case 0, 1, 2, 3:
				want := api.ErrArg
				if tick >= 0 {
					want = api.OK
					m[key] = tick
				}
				if e := w.Set(key, tick); e != want {
					t.Fatalf("round %d: Set(%d, %d): %d", round, key, tick, e)
				}
			case 4:
				w.Stop(key)
				delete(m, key)
			case 5, 6:
				if due, there := m[key]; !there {
					hasNone(t, w, key)
				} else if got := w.Due(key); got != due {
					t.Fatalf("round %d: Due(%d): %d, not %d", round, key, got, due)
				}
			case 7:
				pops(t, w, tick, m.pop(tick)...)
			}
			holds(t, w, m.all()...)
		}
	}
}

// TestNothingIsLostOrTwice: as ticks go on, each timer pops just when it is due.
func TestNothingIsLostOrTwice(t *testing.T) {
	const many = 1 << 15
	r := rand.New(rand.NewSource(92))
	w, due := New(), map[int]int{}
	for range many {
		key := int(r.Uint64())
		due[key] = r.Intn(1000)
		set(t, w, key, due[key])
	}
	if len(w.All()) != len(due) {
		t.Fatalf("%d of %d", len(w.All()), len(due))
	}
	left := maps.Clone(due)
	for now := range 1000 {
		popped := w.Pop(now)
		if !slices.IsSorted(popped) {
			t.Fatalf("at %d: %v", now, popped)
		}
		for _, key := range popped {
			if at, there := left[key]; !there || at != now {
				t.Fatalf("%d pops at %d, is due at %d", key, now, due[key])
			}
			delete(left, key)
		}
	}
	if len(left) != 0 || len(w.All()) != 0 {
		t.Errorf("%d and %d are left", len(left), len(w.All()))
	}
}

// draws fails unless numbers come, one behind the other, below a bound.
func draws(t *testing.T, d *Draws, bound int, want ...int) {
	t.Helper()
	for i, n := range want {
		if got := d.Next(bound); got != n {
			t.Fatalf("Next(%d), number %d: %d, not %d", bound, i, got, n)
		}
	}
}

// jitters fails unless a time is that.
func jitters(t *testing.T, d *Draws, n, want int) {
	t.Helper()
	if got := d.Jitter(n); got != want {
		t.Fatalf("Jitter(%d): %d, not %d", n, got, want)
	}
}

func TestNextGoesRound(t *testing.T) {
	draws(t, Draw(5), 10, 5, 5, 5, 5)
	draws(t, Draw(3, 1, 2), 10, 3, 1, 2, 3, 1, 2, 3, 1, 2, 3)
	draws(t, Draw(3, 1, 2), 3, 0, 1, 2, 0, 1, 2)
	draws(t, Draw(0, 0, 8), 1, 0, 0, 0, 0)
}

func TestNextByBound(t *testing.T) {
	d := Draw(100, 101, 102)
	draws(t, d, 7, 100%7)
	draws(t, d, 1000, 101)
	draws(t, d, 1, 0)
	draws(t, d, 100, 0)
	draws(t, d, 101, 0)
	draws(t, d, 103, 102)
}

// TestNextOfNumbersBelowZero: they are as many as their 64 bits tell without a sign.
func TestNextOfNumbersBelowZero(t *testing.T) {
	draws(t, Draw(-1, -2, math.MinInt), 10, 5, 4, 8)
	draws(t, Draw(-1, -2, math.MinInt, math.MaxInt), math.MaxInt, 1, 0, 1, 0)
	draws(t, Draw(-1, -2, math.MinInt, math.MinInt+1), 1<<62, 1<<62-1, 1<<62-2, 0, 1)
	draws(t, Draw(math.MaxInt, math.MaxInt-1), 10, 7, 6)
	draws(t, Draw(-1, -3, -5), 3, 0, 1, 2)
}

// TestNextTakesNone where the bound is below 1.
func TestNextTakesNone(t *testing.T) {
	d := Draw(4, 5, 6)
	for i := range 7 {
		for _, bound := range []int{0, -1, -10, math.MinInt} {
			draws(t, d, bound, 0)
		}
		draws(t, d, 10, 4+i%3)
	}
}

func TestNextOfNone(t *testing.T) {
	var none *Draws
	for _, d := range []*Draws{none, Draw(), Draw([]int{}...)} {
		for _, bound := range keys {
			draws(t, d, bound, 0, 0)
		}
		for n, want := range map[int]int{math.MinInt: 0, -1: 0, 0: 0, 1: 1, 60: 60, 1 << 20: 1 << 20, 1<<20 + 1: 1 << 20, math.MaxInt: 1 << 20} {
			jitters(t, d, n, want)
		}
	}
	if Draw() == nil {
		t.Error("draws of nothing are nil")
	}
}

// TestJitterOfEachDraw: half as much, rounded down, is the most that comes on top.
func TestJitterOfEachDraw(t *testing.T) {
	for n := range 70 {
		for drawn := range 80 {
			jitters(t, Draw(drawn), n, n+drawn%(n/2+1))
		}
	}
	jitters(t, Draw(30), 60, 90)
	jitters(t, Draw(31), 60, 60)
	jitters(t, Draw(30), 61, 91)
	jitters(t, Draw(31), 61, 61)
	jitters(t, Draw(31), 62, 93)
	jitters(t, Draw(-1), 60, 60+15) // 2^64 - 1 is 15 above a number that 31 divides
}

func TestJitterAtItsEdges(t *testing.T) {
	const most, half = 1 << 20, 1 << 19
	for _, n := range []int{most, most + 1, 1 << 21, 1 << 32, 1<<32 + 5, math.MaxInt - 1, math.MaxInt} {
		jitters(t, Draw(half), n, most+half)
		jitters(t, Draw(half+1), n, most)
		jitters(t, Draw(half-1), n, most+half-1)
		jitters(t, Draw(7), n, most+7)
	}
	jitters(t, Draw(half), most-1, most-1)
	jitters(t, Draw(half-1), most-1, most-1+half-1)
	for _, n := range []int{0, -1, -2, -60, -1 << 32, math.MinInt + 60, math.MinInt} {
		jitters(t, Draw(9), n, 0)
		jitters(t, Draw(-9), n, 0)
	}
}

// TestJitterTakesOne number, of times too that nothing comes on top of.
func TestJitterTakesOne(t *testing.T) {
	for _, n := range []int{math.MinInt, -1, 0, 1, 2, 60, math.MaxInt} {
		d := Draw(4, 5, 6)
		d.Jitter(n)
		draws(t, d, 10, 5, 6, 4)
	}
	d := Draw(3, 10, 31, 5)
	jitters(t, d, 20, 23)
	jitters(t, d, 20, 30)
	jitters(t, d, 60, 60)
	jitters(t, d, 8, 8)
	jitters(t, d, 20, 23)
}

// TestDrawKeepsACopy: neither side sees what the other one does to the list.
func TestDrawKeepsACopy(t *testing.T) {
	list := []int{1, 2, 3, 4}
	a, b := Draw(list[:2]...), Draw(list...)
	list[0], list[3] = 8, 9
	draws(t, a, 10, 1, 2, 1)
	draws(t, b, 10, 1, 2, 3, 4, 1)
	draws(t, a, 10, 2)
	if !slices.Equal(list, []int{8, 2, 3, 9}) {
		t.Errorf("%v", list)
	}
}
