package prio

import (
	"math"
	"math/rand"
	"slices"
	"testing"

	"kissgate/api"
)

const (
	many = 1 << 40 // of an address: that it is one of many
	rank = 1 << 48 // of a name: a rank by 1
)

// numbers are numbers of all kinds, in order.
var numbers = []int{math.MinInt, math.MinInt + 1, -1 << 32, -1, 0, 1, 2, 1 << 31, 1 << 32, 1 << 53, 1<<53 + 1, math.MaxInt - 1, math.MaxInt}

// noNames are numbers that are no bridges' names.
var noNames = []int{
	math.MinInt, math.MinInt + 1, math.MinInt + 5, -1 << 53, -1<<48 + 1, -2, -1, 0,
	many, many + 1, 1<<48 - 1, rank + many, 15*rank + many, 16 * rank, 16*rank + 1, 1<<60 + 1, 1<<62 + 1, math.MaxInt,
}

func v(root, cost, bridge, port int) api.Vector {
	return api.Vector{Root: root, Cost: cost, Bridge: bridge, Port: port}
}

// heard answers what was heard lately at a port.
func heard(vector api.Vector, cost int) Heard { return Heard{Vector: vector, Cost: cost} }

// parts answers what a vector is made of, what counts most first.
func parts(x api.Vector) []int { return []int{x.Root, x.Cost, x.Bridge, x.Port} }

// vectors answers vectors of all numbers put together with one another, those that are better first.
func vectors(of []int) []api.Vector {
	var list []api.Vector
	for _, root := range of {
		for _, cost := range of {
			for _, bridge := range of {
				for _, port := range of {
					list = append(list, v(root, cost, bridge, port))
				}
			}
		}
	}
	return list
}

// compares fails unless vectors compare so, either way round.
func compares(t *testing.T, a, b api.Vector, want int) {
	t.Helper()
	if got := Compare(a, b); got != want {
		t.Fatalf("Compare(%v, %v): %d, not %d", a, b, got, want)
	}
	if got := Compare(b, a); got != -want {
		t.Fatalf("Compare(%v, %v): %d, not %d", b, a, got, -want)
	}
	if Better(a, b) != (want < 0) || Better(b, a) != (want > 0) {
		t.Fatalf("%v, %v: %v, %v", a, b, Better(a, b), Better(b, a))
	}
}

// holds fails unless a bridge's best is that, by that port, from Best and from Roles, and its ports have those roles.
func holds(t *testing.T, id int, list []Heard, best api.Vector, at int, roles ...int) {
	t.Helper()
	if got, port := Best(id, list); got != best || port != at {
		t.Fatalf("Best(%d, %v): %v, %d, not %v, %d", id, list, got, port, best, at)
	}
	gotRoles, got, port := Roles(id, list)
	if !slices.Equal(gotRoles, roles) || got != best || port != at {
		t.Fatalf("Roles(%d, %v): %v, %v, %d, not %v, %v, %d", id, list, gotRoles, got, port, roles, best, at)
	}
}

// usable answers whether what was heard is of use to a bridge: from Best and from Roles, which both ask.
func usable(t *testing.T, id int, h Heard) bool {
	t.Helper()
	_, at := Best(id, []Heard{h})
	roles, _, port := Roles(id, []Heard{h})
	if len(roles) != 1 || at != port || (at == 0) != (roles[0] == api.RoleRoot) || (at == -1) != (roles[0] == api.RoleDesignated) {
		t.Fatalf("%d, %+v: %d, %d, %v", id, h, at, port, roles)
	}
	return at == 0
}

func TestExample(t *testing.T) {
	holds(t, 5, nil, v(5, 0, 5, 0), -1)
	holds(t, 5, []Heard{}, v(5, 0, 5, 0), -1)
	holds(t, 5, []Heard{{None: true}}, v(5, 0, 5, 0), -1, api.RoleDesignated)
}

func TestCompareByEachPart(t *testing.T) {
	for _, c := range []struct{ better, worse api.Vector }{
		{v(1, 9, 9, 9), v(2, 0, 0, 0)},
		{v(4, 1, 9, 9), v(4, 2, 0, 0)},
		{v(4, 4, 1, 9), v(4, 4, 2, 0)},
		{v(4, 4, 4, 1), v(4, 4, 4, 2)},
		{v(-1, 9, 9, 9), v(0, 0, 0, 0)},
		{v(0, -1, 9, 9), v(0, 0, 0, 0)},
		{v(0, 0, -1, 9), v(0, 0, 0, 0)},
		{v(0, 0, 0, -1), v(0, 0, 0, 0)},
		{v(rank-2, 9, 9, 9), v(rank+1, 0, 0, 0)}, // a rank counts more than an address
	} {
		compares(t, c.better, c.worse, -1)
		compares(t, c.better, c.better, 0)
		compares(t, c.worse, c.worse, 0)
	}
}

// TestCompareFarNumbers: they are held against each other, though the difference between them goes round.
func TestCompareFarNumbers(t *testing.T) {
	for i, a := range numbers {
		for k, b := range numbers {
			want := 0
			if i < k {
				want = -1
			} else if i > k {
				want = 1
			}
			compares(t, v(a, 0, 0, 0), v(b, 0, 0, 0), want)
			compares(t, v(3, a, 0, 0), v(3, b, 0, 0), want)
			compares(t, v(3, 3, a, 0), v(3, 3, b, 0), want)
			compares(t, v(3, 3, 3, a), v(3, 3, 3, b), want)
		}
	}
}

func TestCompareAllTogether(t *testing.T) {
	list := vectors([]int{math.MinInt, -1, 0, 7, math.MaxInt})
	for i, a := range list {
		for k, b := range list {
			if want := slices.Compare(parts(a), parts(b)); Compare(a, b) != want || (i < k) != (want < 0) {
				t.Fatalf("Compare(%v, %v): %d", a, b, Compare(a, b))
			}
		}
	}
}

// TestBetterIsAnOrder: none is better than itself, of two one is better, and what is better than a better one is better.
func TestBetterIsAnOrder(t *testing.T) {
	list := vectors([]int{math.MinInt, 0, math.MaxInt})
	for _, a := range list {
		for _, b := range list {
			if Better(a, b) && Better(b, a) || a == b && Better(a, b) || a != b && !Better(a, b) && !Better(b, a) {
				t.Fatalf("%v, %v: %v, %v", a, b, Better(a, b), Better(b, a))
			}
			for _, c := range list {
				if Better(a, b) && Better(b, c) && !Better(a, c) {
					t.Fatalf("%v, %v, %v", a, b, c)
				}
			}
		}
	}
}

func TestOwn(t *testing.T) {
	for _, id := range append([]int{5, rank, 3*rank + 7}, append(noNames, numbers...)...) {
		if got := Own(id); got != v(id, 0, id, 0) {
			t.Errorf("Own(%d): %v", id, got)
		}
	}
}

func TestThrough(t *testing.T) {
	for _, c := range []struct{ held, way, want int }{
		{0, 0, 0}, {10, 5, 15}, {1 << 24, 1 << 24, 1 << 25}, {1<<31 - 1, 1, 1 << 31},
		{-1, 5, 5}, {5, -1, 5}, {-4, -5, 0}, {math.MinInt, math.MinInt, 0}, {math.MinInt, 3, 3}, {3, math.MinInt, 3}, // below 0: as 0
		{math.MaxInt, 0, math.MaxInt}, {math.MaxInt - 1, 1, math.MaxInt}, {math.MaxInt, 1, math.MaxInt}, {math.MaxInt, math.MaxInt, math.MaxInt}, {1, math.MaxInt, math.MaxInt}, // never beyond the greatest number
	} {
		for _, n := range numbers {
			if got := Through(v(n, c.held, n, n), c.way); got != v(n, c.want, n, n) {
				t.Errorf("Through(%v, %d): %v", v(n, c.held, n, n), c.way, got)
			}
		}
		if got := Through(v(1, c.held, 2, 3), c.way); got != v(1, c.want, 2, 3) {
			t.Errorf("%v", got)
		}
	}
}

func TestOffer(t *testing.T) {
	if got := Offer(v(1, 2, 3, 4), 5, 6); got != v(1, 2, 5, 6) {
		t.Errorf("%v", got)
	}
	for _, a := range numbers {
		for _, b := range numbers {
			if got := Offer(v(a, b, 7, 7), b, a); got != v(a, b, b, a) {
				t.Errorf("%d, %d: %v", a, b, got)
			}
		}
	}
}

func TestOfUseIsWhatWasHeard(t *testing.T) {
	h := heard(v(1, 10, 2, 3), 4)
	holds(t, 5, []Heard{h}, v(1, 14, 2, 3), 0, api.RoleRoot)
	h.None = true
	holds(t, 5, []Heard{h}, Own(5), -1, api.RoleDesignated)
}

func TestOfUseByAge(t *testing.T) {
	for age := -30; age <= 300; age++ {
		if got := usable(t, 5, Heard{Vector: v(1, 0, 1, 0), Age: age}); got != (0 <= age && age <= 9) {
			t.Errorf("%d: %v", age, got)
		}
	}
	for _, age := range []int{math.MinInt, math.MinInt + 5, -1 << 32, -1<<32 + 5, 1 << 32, 1<<32 + 5, math.MaxInt} {
		if usable(t, 5, Heard{Vector: v(1, 0, 1, 0), Age: age}) {
			t.Errorf("%d is of use", age)
		}
	}
}

func TestOfUseByRoot(t *testing.T) {
	const id = 15*rank + 0xfefffffffffe
	for _, root := range []int{1, 2, 1 << 39, 1<<40 - 1, 1 << 41, 1<<48 - 1 - many, rank, rank + 1, 9*rank + 1<<47, 15*rank + 1, id - 1} {
		if !usable(t, id, heard(v(root, 0, 1, 0), 1)) {
			t.Errorf("%#x is of no use", root)
		}
	}
	for _, root := range noNames {
		if usable(t, id, heard(v(root, 0, 1, 0), 1)) || usable(t, math.MaxInt, heard(v(root, 0, 1, 0), 1)) {
			t.Errorf("%#x is of use", root)
		}
	}
}

// TestOfUseByBridge: it is another one; of what kind its number is isn't asked.
func TestOfUseByBridge(t *testing.T) {
	for _, bridge := range append([]int{1, 2, 4, 6, 5 + rank}, append(noNames, numbers...)...) {
		if !usable(t, 5, heard(v(1, 0, bridge, 0), 1)) {
			t.Errorf("%#x is of no use", bridge)
		}
	}
	for port := range 7 {
		if usable(t, 5, heard(v(1, 0, 5, port), 1)) {
			t.Errorf("its own message of port %d is of use", port)
		}
	}
}

// TestOfUseByTheRest: costs and ports may be any.
func TestOfUseByTheRest(t *testing.T) {
	for _, a := range numbers {
		for _, b := range numbers {
			if !usable(t, 5, heard(v(1, a, 2, b), b)) {
				t.Errorf("%d, %d: of no use", a, b)
			}
		}
	}
}

// TestBestHasARootBelowItsName: what has none is of use, but no best one.
func TestBestHasARootBelowItsName(t *testing.T) {
	for root := 1; root < 40; root++ {
		list := []Heard{heard(v(root, 3, 20, 0), 1)}
		switch {
		case root < 19:
			holds(t, 19, list, v(root, 4, 20, 0), 0, api.RoleRoot)
		default:
			holds(t, 19, list, Own(19), -1, api.RoleDesignated)
		}
	}
}

// TestBestOfItsOwnRoot: what others say of it as the root is no best, though it be better than what it says itself; it is of use.
func TestBestOfItsOwnRoot(t *testing.T) {
	list := []Heard{
		heard(v(5, 0, 4, 0), 0), heard(v(5, 0, 6, 0), 0), heard(v(5, 1, 4, 0), 0),
		heard(v(5, -1, 6, 0), 0), heard(v(5, math.MinInt, 4, 9), math.MinInt), heard(v(5, 0, -3, 0), 0),
	}
	holds(t, 5, list, Own(5), -1,
		api.RoleAlternate, api.RoleDesignated, api.RoleDesignated,
		api.RoleAlternate, api.RoleAlternate, api.RoleAlternate)
}

func TestBestByEachPart(t *testing.T) {
	better := heard(v(2, 4, 4, 4), 4)
	for i, worse := range []Heard{
		heard(v(3, 0, 1, 0), 0), // by its root
		heard(v(2, 5, 1, 0), 4), // by its cost
		heard(v(2, 4, 1, 0), 5), // by its port's
		heard(v(2, 0, 1, 0), 9), // by both
		heard(v(2, 4, 5, 0), 4), // by its bridge
		heard(v(2, 8, 5, 0), 0),
		heard(v(2, 4, 4, 5), 4), // by its port
		heard(v(2, 0, 4, 5), 8),
	} {
		if best, at := Best(9, []Heard{better, worse}); best != v(2, 8, 4, 4) || at != 0 {
			t.Errorf("%d: %v, %d", i, best, at)
		}
		if best, at := Best(9, []Heard{worse, better}); best != v(2, 8, 4, 4) || at != 1 {
			t.Errorf("%d: %v, %d", i, best, at)
		}
	}
}

// TestBestOfTwoThatAreOne is that of the lower port, whether or not the way to them is one.
func TestBestOfTwoThatAreOne(t *testing.T) {
	one, same := heard(v(1, 10, 3, 2), 5), heard(v(1, 12, 3, 2), 3)
	worse := heard(v(1, 10, 3, 3), 5)
	for _, c := range []struct {
		list []Heard
		at   int
	}{
		{[]Heard{one, one}, 0}, {[]Heard{one, same}, 0}, {[]Heard{same, one}, 0}, {[]Heard{same, one, same, one}, 0},
		{[]Heard{worse, one, same}, 1}, {[]Heard{{None: true}, worse, same, one, worse, one}, 2},
	} {
		best, at := Best(9, c.list)
		if best != v(1, 15, 3, 2) || at != c.at {
			t.Errorf("%v: %v, %d", c.list, best, at)
		}
		roles, _, _ := Roles(9, c.list)
		for port, role := range roles {
			if (role == api.RoleRoot) != (port == c.at) {
				t.Errorf("%v: %v", c.list, roles)
			}
		}
	}
}

// TestBestOfFarCosts: costs below 0 are as 0, and none is beyond the greatest number.
func TestBestOfFarCosts(t *testing.T) {
	far := heard(v(1, math.MaxInt, 3, 0), math.MaxInt)
	holds(t, 5, []Heard{far}, v(1, math.MaxInt, 3, 0), 0, api.RoleRoot)
	near := heard(v(1, math.MaxInt-1, 4, 0), 0)
	holds(t, 5, []Heard{far, near}, v(1, math.MaxInt-1, 4, 0), 1, api.RoleDesignated, api.RoleRoot)
	below := heard(v(1, -7, 3, 0), -9)
	holds(t, 5, []Heard{below}, v(1, 0, 3, 0), 0, api.RoleRoot)
	holds(t, 5, []Heard{heard(v(1, -9, 4, 0), 0), below}, v(1, 0, 3, 0), 1, api.RoleAlternate, api.RoleRoot)
	holds(t, 5, []Heard{heard(v(1, -9, 4, 0), 1), below}, v(1, 0, 3, 0), 1, api.RoleAlternate, api.RoleRoot)
}

// TestRolesByWhatItOffers: what it offers is of its best, at this port, and held against what was heard there, without the way through the port.
func TestRolesByWhatItOffers(t *testing.T) {
	root := heard(v(2, 10, 3, 1), 5) // it offers the root 2, at 15
	for _, c := range []struct {
		at   Heard
		role int
	}{
		{heard(v(2, 14, 9, 9), 2), api.RoleAlternate},
		{heard(v(2, 14, 9, 9), 1<<24), api.RoleAlternate},
		{heard(v(2, 15, 4, 9), 1), api.RoleAlternate},
		{heard(v(2, 15, 4, 9), 1<<24), api.RoleAlternate},
		{heard(v(2, 15, 6, 0), 1), api.RoleDesignated},
		{heard(v(2, 15, 6, -9), 1<<24), api.RoleDesignated},
		{heard(v(2, 16, 1, 0), 1), api.RoleDesignated},
		{heard(v(3, 0, 1, 0), 1), api.RoleDesignated},
		{heard(v(4, 0, 4, 0), 1), api.RoleDesignated},
		{heard(v(5, 0, 4, 0), 1), api.RoleDesignated},
		{heard(v(9, 0, 1, 0), 1), api.RoleDesignated},
		{Heard{Vector: v(2, 14, 3, 2), Cost: 2, Age: 9}, api.RoleAlternate},
		{Heard{Vector: v(2, 14, 3, 2), Cost: 2, Age: 10}, api.RoleDesignated},
		{Heard{Vector: v(2, 14, 3, 2), Cost: 2, Age: -1}, api.RoleDesignated},
		{Heard{Vector: v(2, 14, 3, 2), Cost: 2, None: true}, api.RoleDesignated},
		{heard(v(0, 0, 1, 0), 1), api.RoleDesignated},
		{heard(v(-1, 0, 1, 0), 1), api.RoleDesignated},
		{heard(v(1+many, 0, 1, 0), 1), api.RoleDesignated},
		{heard(v(1, 0, 5, 0), 1), api.RoleDesignated},
		{heard(v(2, 14, 5, 0), 2), api.RoleDesignated},
		{heard(v(2, 15, -1, 0), 1), api.RoleAlternate},
		{heard(v(2, 15, 0, 0), 1), api.RoleAlternate},
	} {
		holds(t, 5, []Heard{root, c.at}, v(2, 15, 3, 1), 0, api.RoleRoot, c.role)
		holds(t, 5, []Heard{c.at, root}, v(2, 15, 3, 1), 1, c.role, api.RoleRoot)
	}
}

// TestRolesOfARoot: where it holds itself the root it is designated, but where others say so and are nearer.
func TestRolesOfARoot(t *testing.T) {
	list := []Heard{{None: true}, heard(v(2, 0, 2, 0), 1), heard(v(1, 5, 2, 0), 1), heard(v(3, 1, 2, 9), 1), heard(v(1, 0, 1, 3), 1)}
	holds(t, 1, list, Own(1), -1, api.RoleDesignated, api.RoleDesignated, api.RoleDesignated, api.RoleDesignated, api.RoleDesignated)
}

// TestARootPortWouldOtherwiseBeAnother: the port of the best one is the root port, though what is offered be better than what was heard there.
func TestARootPortWouldOtherwiseBeAnother(t *testing.T) {
	for _, bridge := range []int{3, 7} {
		holds(t, 5, []Heard{heard(v(2, 4, bridge, 0), 0)}, v(2, 4, bridge, 0), 0, api.RoleRoot)
		holds(t, 5, []Heard{heard(v(2, 4, bridge, 0), 8)}, v(2, 12, bridge, 0), 0, api.RoleRoot)
	}
}

// TestNoNameOfItsOwn: a number that is no bridge's name is gone on from as it is.
func TestNoNameOfItsOwn(t *testing.T) {
	for _, id := range noNames {
		list := []Heard{heard(v(1, 2, 3, 4), 5), {None: true}, heard(v(1, 2, id, 4), 5)}
		if id > 1 {
			holds(t, id, list, v(1, 7, 3, 4), 0, api.RoleRoot, api.RoleDesignated, api.RoleDesignated)
		} else {
			holds(t, id, list, Own(id), -1, api.RoleDesignated, api.RoleDesignated, api.RoleDesignated)
		}
	}
}

// ofUse is what the chapter says of use is; names are the numbers of the drawn rounds that are bridges' names.
func ofUse(id int, h Heard, names []int) bool {
	return !h.None && h.Age >= 0 && h.Age <= 9 && slices.Contains(names, h.Vector.Root) && h.Vector.Bridge != id
}

// ranked answers which ports have a best one to choose from: the best one first, of two that are one that of the lower port.
func ranked(id int, list []Heard, names []int) []int {
	var ports []int
	for port, h := range list {
		if ofUse(id, h, names) && h.Vector.Root < id {
			ports = append(ports, port)
		}
	}
	slices.SortStableFunc(ports, func(a, b int) int {
		x, y := list[a], list[b]
		x.Vector.Cost, y.Vector.Cost = x.Vector.Cost+x.Cost, y.Vector.Cost+y.Cost
		return slices.Compare(parts(x.Vector), parts(y.Vector))
	})
	return ports
}

// TestRolesAllOver holds drawn rows of what was heard against what the chapter says, put in order in another way.
func TestRolesAllOver(t *testing.T) {
	r := rand.New(rand.NewSource(10))
	names := []int{1, 2, 3, 4, rank + 1}
	roots := append([]int{0, -1, many + 1}, names...)
	seen := [4]int{}
	for range 60000 {
		id := []int{1, 2, 3, 4, rank + 1, rank + 1}[r.Intn(6)]
		list := make([]Heard, r.Intn(7))
		for port := range list {
			list[port] = Heard{
				Vector: v(roots[r.Intn(len(roots))], r.Intn(4), roots[r.Intn(len(roots))], r.Intn(3)),
				Age:    r.Intn(13) - 1, Cost: r.Intn(4), None: r.Intn(8) == 0,
			}
		}
		best, at := v(id, 0, id, 0), -1
		if ports := ranked(id, list, names); len(ports) > 0 {
			at = ports[0]
			best = list[at].Vector
			best.Cost += list[at].Cost
		}
		var roles []int
		for port, h := range list {
			role := api.RoleAlternate
			if port == at {
				role = api.RoleRoot
			} else if !ofUse(id, h, names) || slices.Compare([]int{best.Root, best.Cost, id, port}, parts(h.Vector)) < 0 {
				role = api.RoleDesignated
			}
			roles = append(roles, role)
			seen[role]++
		}
		holds(t, id, list, best, at, roles...)
	}
	if seen[api.RoleRoot] < 1000 || seen[api.RoleDesignated] < 1000 || seen[api.RoleAlternate] < 1000 {
		t.Errorf("too few: %v", seen)
	}
}

// TestOneRootPortAtMost: none just if it holds itself the root.
func TestOneRootPortAtMost(t *testing.T) {
	r := rand.New(rand.NewSource(102))
	kinds := append([]int{3, 4, 5, rank, 2 * rank}, append(noNames, numbers...)...)
	draw := func() int { return kinds[r.Intn(len(kinds))] }
	for range 60000 {
		id := draw()
		list := make([]Heard, r.Intn(9))
		for port := range list {
			list[port] = Heard{Vector: v(draw(), draw(), draw(), draw()), Age: r.Intn(12) - 1, Cost: draw()}
		}
		roles, best, at := Roles(id, list)
		roots := 0
		for port, role := range roles {
			if role == api.RoleRoot {
				roots++
			}
			if (role == api.RoleRoot) != (port == at) || role < api.RoleRoot || role > api.RoleAlternate {
				t.Fatalf("%d, %v: %v, %d", id, list, roles, at)
			}
		}
		if roots > 1 || (roots == 0) != (best.Root == id) || (roots == 0) != (best == Own(id)) || (roots == 0) != (at == -1) || len(roles) != len(list) {
			t.Fatalf("%d, %v: %v, %v, %d", id, list, roles, best, at)
		}
	}
}

// TestManyPorts: more than a bridge has are gone over too.
func TestManyPorts(t *testing.T) {
	const ports = 1 << 17
	list := make([]Heard, ports)
	want := make([]int, ports)
	for port := range list {
		list[port] = heard(v(1, ports-port, 2, 3), 7)
		want[port] = api.RoleDesignated
		if ports-port <= 8 { // what it offers: the root 1, at 8
			want[port] = api.RoleAlternate
		}
	}
	want[ports-1] = api.RoleRoot
	holds(t, 5, list, v(1, 8, 2, 3), ports-1, want...)
}

func TestHeardIsNotChanged(t *testing.T) {
	room := []Heard{heard(v(1, 2, 3, 4), 5), {None: true}, heard(v(2, -3, 3, 4), -5), {Age: 77}, {Age: 78}}
	was := slices.Clone(room)
	first, _, _ := Roles(5, room[:3])
	Best(5, room[:3])
	if !slices.Equal(room, was) {
		t.Errorf("%v", room)
	}
	second, _, _ := Roles(5, room[:3])
	for i := range first {
		first[i] = 9
	}
	_ = append(first[:1], 8, 8)
	if !slices.Equal(second, []int{api.RoleRoot, api.RoleDesignated, api.RoleDesignated}) {
		t.Errorf("%v", second)
	}
}

func TestSorted(t *testing.T) {
	want := vectors([]int{math.MinInt, -1, 0, 6, math.MaxInt})
	r := rand.New(rand.NewSource(11))
	for range 20 {
		list := slices.Clone(want)
		r.Shuffle(len(list), func(i, k int) { list[i], list[k] = list[k], list[i] })
		if got := Sorted(list); !slices.Equal(got, want) {
			t.Fatalf("%v", got)
		}
	}
	back := slices.Clone(want)
	slices.Reverse(back)
	if !slices.Equal(Sorted(back), want) || !slices.Equal(Sorted(want), want) {
		t.Error("rows in order")
	}
}

// TestSortedLosesNone: vectors that are one come as often as they were given.
func TestSortedLosesNone(t *testing.T) {
	a, b, c := v(1, 2, 3, 4), v(1, 2, 3, 5), v(2, 0, 0, 0)
	for _, list := range [][]api.Vector{{b, a, c, a, b, a}, {c, b, b, a, a, a}, {a, a, a, b, b, c}} {
		if got := Sorted(list); !slices.Equal(got, []api.Vector{a, a, a, b, b, c}) {
			t.Errorf("%v", got)
		}
	}
	if got := Sorted([]api.Vector{c}); !slices.Equal(got, []api.Vector{c}) {
		t.Errorf("%v", got)
	}
	if len(Sorted(nil)) != 0 || len(Sorted([]api.Vector{})) != 0 {
		t.Error("something of nothing")
	}
}

// TestSortedIsACopy: what is handed in stays as it is, and the answer shares nothing with it, or with another answer.
func TestSortedIsACopy(t *testing.T) {
	a, b, c, d := v(1, 0, 0, 0), v(2, 0, 0, 0), v(3, 0, 0, 0), v(4, 0, 0, 0)
	room := []api.Vector{c, a, b, d, a}
	for size := range 4 {
		first, second := Sorted(room[:size]), Sorted(room[:size])
		kept := slices.Clone(second)
		for i := range first {
			first[i] = v(-9, -9, -9, -9)
		}
		_ = append(first, d, d)
		_ = append(first[:0], d)
		if !slices.Equal(room, []api.Vector{c, a, b, d, a}) || !slices.Equal(second, kept) {
			t.Fatalf("%d: %v, %v", size, room, second)
		}
	}
	list := []api.Vector{c, a, b}
	got := Sorted(list)
	list[0], list[1], list[2] = d, d, d
	if !slices.Equal(got, []api.Vector{a, b, c}) {
		t.Errorf("%v", got)
	}
}
