package cost

import (
	"math"
	"math/big"
	"testing"

	"kissgate/api"
)

var (
	nan   = math.NaN()
	inf   = math.Inf(1)
	least = math.SmallestNonzeroFloat64
)

// none are speeds that aren't above nought.
var none = []float64{
	0, math.Copysign(0, -1), nan, -nan, math.Float64frombits(0x7ff0000000000001), math.Float64frombits(0xfff8000000000000),
	-least, -1e-300, -0.5, -1, -10, -1000, -40000000, -math.MaxFloat64, math.Inf(-1),
}

// plain is Of as the chapter tells of it, of a speed above nought: floats worked out with whole numbers, each step rounded to 53 bits.
func plain(speed float64) int {
	if math.IsInf(speed, 1) {
		return 1
	}
	step := func() *big.Float { return new(big.Float).SetPrec(53).SetMode(big.ToNearestEven) }
	q := step().Quo(step().SetInt64(20000000), step().SetFloat64(speed))
	whole, _ := step().Add(q, step().SetFloat64(0.5)).Int(nil)
	switch {
	case whole.Sign() <= 0:
		return 1
	case whole.Cmp(big.NewInt(1<<24)) > 0:
		return 1 << 24
	}
	return int(whole.Int64())
}

// next and before answer the floats beside one.
func next(speed float64) float64   { return math.Nextafter(speed, math.Inf(1)) }
func before(speed float64) float64 { return math.Nextafter(speed, math.Inf(-1)) }

// speeds gives speeds above nought that rise: about each power of two, and many between them.
func speeds() func(func(float64) bool) {
	return func(yield func(float64) bool) {
		for at := uint64(1); at <= math.Float64bits(inf); at += 1 + at>>11 {
			if !yield(math.Float64frombits(at)) {
				return
			}
		}
		yield(inf)
	}
}

// costs gives costs that rise, the first ones, the last ones and those beside the powers of two among them.
func costs() func(func(int) bool) {
	return func(yield func(int) bool) {
		for c := 1; c <= api.MaxCost; c++ {
			near := c&(c-1) == 0 || c&(c+1) == 0 || (c-1)&(c-2) == 0
			if (c < 3000 || c > api.MaxCost-1000 || c%997 == 0 || near) && !yield(c) {
				return
			}
		}
	}
}

func TestOf(t *testing.T) {
	for _, c := range []struct {
		speed float64
		want  int
	}{
		{10, 2000000}, {100, 200000}, {1000, 20000}, {10000, 2000}, {100000, 200}, {1000000, 20}, {10000000, 2}, {20000000, 1},
		{2, 10000000}, {4, 5000000}, {2.5, 8000000}, {1.5, 13333333}, {16, 1250000}, {54, 370370}, {300, 66667}, {0.5, 1 << 24}, {1, 1 << 24},
		{3, 6666667},          // 6666666.67: up
		{6, 3333333},          // 3333333.33: down
		{64, 312500},          // whole
		{128, 156250},         // whole
		{256, 78125},          // whole
		{512, 39063},          // 39062.5: up
		{1024, 19531},         // 19531.25: down
		{768, 26042},          // 26041.67: up
		{7, 2857143},          // 2857142.86: up
		{12500000, 2},         // 1.6
		{8000000, 3},          // 2.5: up
		{8000001, 2},          // a little below
		{7999999, 3},          // a little above
		{16000000, 1},         // 1.25
		{13333333, 2},         // 1.50000004
		{13333334, 1},         // 1.49999993
		{40000000, 1},         // 0.5: up
		{40000001, 1},         // below 0.5: at least 1
		{50000000, 1},         // at least 1
		{1e300, 1},            // at least 1
		{1.2, 16666667},       // below the greatest
		{1.1920929, 16777216}, // 16777216.01
		{1.19, 16777216},      // at most the greatest
	} {
		if got := Of(c.speed); got != c.want {
			t.Errorf("Of(%v): %d, not %d", c.speed, got, c.want)
		}
	}
}

func TestOfWhatIsNotAboveNought(t *testing.T) {
	for _, speed := range none {
		if got := Of(speed); got != 16777216 {
			t.Errorf("Of(%v): %d", speed, got)
		}
	}
}

func TestOfTheGreatestAndLeast(t *testing.T) {
	for _, speed := range []float64{least, 2 * least, 1e-320, 0x1p-1022, 1e-308, 1e-301, 1e-100, 1e-12, 1e-9, 1.0 / 3, 0.1, 1, 1.19} {
		if got := Of(speed); got != 16777216 {
			t.Errorf("Of(%v): %d", speed, got)
		}
	}
	for _, speed := range []float64{13333334, 2e7, 4e7, next(4e7), 1e9, 1e18, 1e19, 1e100, before(math.MaxFloat64), math.MaxFloat64, inf} {
		if got := Of(speed); got != 1 {
			t.Errorf("Of(%v): %d", speed, got)
		}
	}
}

// TestOfIsWorkedOutInFloats: at these speeds the quotient is below a half, and the float of it is the half.
func TestOfIsWorkedOutInFloats(t *testing.T) {
	for c, speed := range map[int]float64{2: 0x1.96e6aaaaaaaabp+23, 4: 0x1.5cc5b6db6db6ep+22, 11: 0x1.d1079e79e79e8p+20, 39: 0x1.fb4e213f2b389p+18, 105: 0x1.75cdc7a7cf014p+17} {
		exact := new(big.Rat).Quo(big.NewRat(20000000, 1), new(big.Rat).SetFloat64(speed))
		if exact.Cmp(big.NewRat(int64(2*c-1), 2)) >= 0 {
			t.Fatalf("%v is no such speed", speed)
		}
		if got := Of(speed); got != c {
			t.Errorf("Of(%v): %d, not %d", speed, got, c)
		}
		if got := Of(next(speed)); got != c-1 {
			t.Errorf("Of(%v): %d, not %d", next(speed), got, c-1)
		}
		if got := Speed(c); got != speed {
			t.Errorf("Speed(%d): %v, not %v", c, got, speed)
		}
	}
}

func TestOfAllOver(t *testing.T) {
	for speed := range speeds() {
		if got, want := Of(speed), plain(speed); got != want {
			t.Fatalf("Of(%v): %d, not %d", speed, got, want)
		}
		if got := Of(-speed); got != api.MaxCost {
			t.Fatalf("Of(%v): %d", -speed, got)
		}
	}
}

func TestOfAboutTheEdges(t *testing.T) {
	for c := range costs() {
		for _, edge := range []float64{20000000 / float64(c), 20000000 / (float64(c) - 0.5), 20000000 / (float64(c) + 0.5)} {
			for _, speed := range []float64{before(before(edge)), before(edge), edge, next(edge), next(next(edge))} {
				if got, want := Of(speed), plain(speed); got != want {
					t.Fatalf("Of(%v): %d, not %d", speed, got, want)
				}
			}
		}
	}
}

func TestOfNeverRises(t *testing.T) {
	last := api.MaxCost
	for speed := range speeds() {
		got := Of(speed)
		if got > last || got < 1 || got > 1<<24 {
			t.Fatalf("Of(%v): %d, behind %d", speed, got, last)
		}
		last = got
	}
	if last != 1 {
		t.Errorf("Of(%v): %d", inf, last)
	}
}

// TestOfNeverRisesBetweenNeighbours goes through floats that follow on one another, where a rounding would be seen first.
func TestOfNeverRisesBetweenNeighbours(t *testing.T) {
	for c := range costs() {
		speed := 20000000 / (float64(c) - 0.5)
		for range 20 {
			speed = before(speed)
		}
		last := Of(speed)
		for range 40 {
			speed = next(speed)
			got := Of(speed)
			if got > last || got < 1 || got > 1<<24 {
				t.Fatalf("Of(%v): %d, behind %d", speed, got, last)
			}
			last = got
		}
	}
}

func TestSpeed(t *testing.T) {
	for c, want := range map[int]float64{
		3: 8000000, 39063: 512, // halves that are floats
		1: inf,
		2: 0x1.96e6aaaaaaaabp+23, // 13333333.33
	} {
		if got := Speed(c); got != want {
			t.Errorf("Speed(%d): %v, not %v", c, got, want)
		}
	}
}

func TestSpeedIsTheGreatest(t *testing.T) {
	last := inf
	for c := range costs() {
		speed := Speed(c)
		if c == 1 {
			if !math.IsInf(speed, 1) {
				t.Fatalf("Speed(1): %v", speed)
			}
			continue
		}
		if !(speed > 0) || speed >= last {
			t.Fatalf("Speed(%d): %v, behind %v", c, speed, last)
		}
		if Of(speed) != c || plain(speed) != c || Of(next(speed)) != c-1 || plain(next(speed)) != c-1 {
			t.Fatalf("Speed(%d): %v, which costs %d; the next one %d", c, speed, Of(speed), Of(next(speed)))
		}
		last = speed
	}
}

func TestSpeedOfNoCost(t *testing.T) {
	for _, c := range []int{math.MinInt, math.MinInt + 1, -1 << 53, -1 << 32, -1<<24 - 1, -2, -1, 0, 1<<24 + 1, 1<<24 + 2, 20000000, 20000001, 1 << 32, 1<<32 + 1, 1<<53 + 1, math.MaxInt - 1, math.MaxInt} {
		if got := Speed(c); got != 0 || math.Signbit(got) {
			t.Errorf("Speed(%d): %v", c, got)
		}
	}
}

func TestBetter(t *testing.T) {
	for _, c := range []struct {
		a, b float64
		want bool
	}{
		{100, 10, true}, {10, 100, false}, {10, 10, false},
		{inf, 10, true}, {10, inf, false}, {inf, inf, false},
		{inf, 2e7, false}, {2e7, inf, false}, {inf, 1e7, true}, // one cost, though one is greater
		{1, 0.5, false}, {0.5, 1, false}, {1.2, 1, true}, {1, 1.2, false},
		{512, next(512), false}, {next(512), 512, true}, {before(512), 512, false}, {512, before(512), false}, // 512 is the last one of its cost
		{nan, nan, false}, {nan, 1, false}, {1, nan, false}, {nan, 10, false}, {10, nan, true}, {inf, nan, true}, {nan, inf, false},
		{0, 10, false}, {10, 0, true}, {10, math.Copysign(0, -1), true}, {0, 0, false},
		{-10, 10, false}, {10, -10, true}, {-1, -10, false}, {-10, -1, false}, {math.Inf(-1), 10, false}, {10, math.Inf(-1), true},
		{least, 0, false}, {0, least, false}, {math.MaxFloat64, inf, false},
	} {
		if got := Better(c.a, c.b); got != c.want {
			t.Errorf("Better(%v, %v): %v", c.a, c.b, got)
		}
	}
}

func TestBetterIsLessCost(t *testing.T) {
	list := append([]float64{least, 0.5, 1, 1.1, 1.2, 1.25, 10, 10.000001, 11, 512, next(512), 1e6, 1e7, 2e7, 3e7, math.MaxFloat64, inf}, none...)
	for _, a := range list {
		for _, b := range list {
			if got := Better(a, b); got != (Of(a) < Of(b)) {
				t.Errorf("Better(%v, %v): %v", a, b, got)
			}
		}
	}
}

func TestSum(t *testing.T) {
	for _, c := range []struct{ a, b, want int }{
		{2, 3, 5}, {0, 0, 0}, {0, 7, 7}, {7, 0, 7}, {1 << 24, 1 << 24, 1 << 25}, {1 << 24, 1, 1<<24 + 1}, {1<<31 - 1, 1, 1 << 31}, {1 << 53, 1, 1<<53 + 1},
		{-5, 3, 3}, {3, -5, 3}, {-5, -3, 0}, {-1, 0, 0}, {0, -1, 0}, {-1, -1, 0}, {-1, 1, 1},
		{math.MinInt, math.MinInt, 0}, {math.MinInt, 9, 9}, {9, math.MinInt, 9}, {math.MinInt, -1, 0}, {math.MinInt, math.MaxInt, math.MaxInt}, {math.MaxInt, -1, math.MaxInt},
		{math.MaxInt, 0, math.MaxInt}, {0, math.MaxInt, math.MaxInt}, {math.MaxInt - 1, 0, math.MaxInt - 1},
		{math.MaxInt - 1, 1, math.MaxInt}, {1, math.MaxInt - 1, math.MaxInt}, {math.MaxInt - 5, 4, math.MaxInt - 1},
		{math.MaxInt, 1, math.MaxInt}, {1, math.MaxInt, math.MaxInt}, {math.MaxInt - 1, 2, math.MaxInt}, {math.MaxInt, math.MaxInt, math.MaxInt},
		{1 << 62, 1<<62 - 1, math.MaxInt}, {1<<62 - 1, 1<<62 - 1, math.MaxInt - 1}, {1 << 62, 1 << 62, math.MaxInt},
	} {
		if got := Sum(c.a, c.b); got != c.want {
			t.Errorf("Sum(%d, %d): %d, not %d", c.a, c.b, got, c.want)
		}
	}
}
