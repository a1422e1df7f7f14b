package spread

import (
	"math"
	"slices"
	"testing"

	"kissgate/addr"
	"kissgate/api"
)

// noAttrs are attributes that can't be: they are gone by like others. They are in order.
var noAttrs = []api.Attr{
	{Type: math.MinInt, Value: 1}, {Type: -1, Value: 3}, {}, {Value: 5}, vid(math.MinInt), vid(-1), vid(0), vid(4095), vid(1 << 32),
	{Type: 2, Value: 2}, {Type: 2, Value: 1 << 48}, serv(2), {Type: 4, Value: math.MinInt}, {Type: 4, Value: math.MaxInt}, {Type: math.MaxInt},
}

// far are ticks of all kinds at which a word may have been said first, belows numbers that are none.
var (
	far    = []int{0, 1, 2, 120, 1 << 20, 1<<20 + 1, 1 << 31, 1 << 32, 1<<32 + 1, 1 << 62, math.MaxInt - 1, math.MaxInt}
	belows = []int{-1, -2, -3, -121, -256, -1 << 20, -1 << 31, -1 << 32, -1<<32 + 1, -1 << 62, math.MinInt + 1, math.MinInt}
)

func vid(n int) api.Attr   { return api.Attr{Type: api.AttrVid, Value: n} }
func group(n int) api.Attr { return api.Attr{Type: api.AttrGroup, Value: addr.Group + n} }
func serv(n int) api.Attr  { return api.Attr{Type: api.AttrServ, Value: n} }

// open answers the view of a port that forwards, with one attribute; shut that of one that doesn't.
func open(a api.Attr, born int) View {
	return View{Open: true, Attrs: []api.Attr{a}, Born: []int{born}}
}

func shut(a api.Attr, born int) View {
	return View{Attrs: []api.Attr{a}, Born: []int{born}}
}

// wants, all, members fail unless that is what is answered of ports.
func wants(t *testing.T, ports []View, a api.Attr, own int, want ...int) {
	t.Helper()
	if got := Wants(ports, a, own); !slices.Equal(got, want) {
		t.Fatalf("Wants(%v, %v, %d): %v, not %v", ports, a, own, got, want)
	}
}

func all(t *testing.T, ports []View, more []api.Attr, want ...api.Attr) {
	t.Helper()
	if got := All(ports, more...); !slices.Equal(got, want) {
		t.Fatalf("All(%v, %v): %v, not %v", ports, more, got, want)
	}
}

func members(t *testing.T, ports []View, a api.Attr, want ...int) {
	t.Helper()
	if got := Members(ports, a); !slices.Equal(got, want) {
		t.Fatalf("Members(%v, %v): %v, not %v", ports, a, got, want)
	}
}

func TestExample(t *testing.T) {
	ports := []View{open(vid(5), 7), {Open: true}, {Open: true}}
	wants(t, ports, vid(5), -1, -1, 7, 7)
	all(t, ports, nil, vid(5))
	members(t, ports, vid(5), 0)
}

func TestNoPorts(t *testing.T) {
	for _, none := range [][]View{nil, {}} {
		wants(t, none, vid(5), 7)
		wants(t, none, vid(5), -1)
		all(t, none, nil)
		all(t, none, []api.Attr{})
		all(t, none, []api.Attr{serv(0), vid(5), serv(0)}, vid(5), serv(0))
		members(t, none, vid(5))
	}
}

// TestNothingRegistered: what the bridge says itself is said at each port that forwards, and nothing else is.
func TestNothingRegistered(t *testing.T) {
	ports := []View{{Open: true}, {}, {Open: true, Attrs: []api.Attr{}, Born: []int{}}, {Open: true, Born: []int{9, 9}}}
	wants(t, ports, vid(5), 7, 7, -1, 7, 7)
	wants(t, ports, vid(5), 0, 0, -1, 0, 0)
	wants(t, ports, vid(5), -1, -1, -1, -1, -1)
	all(t, ports, nil)
	members(t, ports, vid(5))
}

// TestTheLatestOfOthers: wherever the latest is, and the next one to it.
func TestTheLatestOfOthers(t *testing.T) {
	for _, c := range []struct{ born, want []int }{
		{[]int{5}, []int{-1}},
		{[]int{5, 9}, []int{9, 5}},
		{[]int{9, 5}, []int{5, 9}},
		{[]int{0, 0}, []int{0, 0}},
		{[]int{1, 2, 3}, []int{3, 3, 2}},
		{[]int{1, 3, 2}, []int{3, 2, 3}},
		{[]int{2, 1, 3}, []int{3, 3, 2}},
		{[]int{2, 3, 1}, []int{3, 2, 3}},
		{[]int{3, 1, 2}, []int{2, 3, 3}},
		{[]int{3, 2, 1}, []int{2, 3, 3}},
		{[]int{4, 4, 1}, []int{4, 4, 4}},
		{[]int{4, 1, 4}, []int{4, 4, 4}},
		{[]int{1, 4, 4}, []int{4, 4, 4}},
		{[]int{4, 4, 4}, []int{4, 4, 4}},
		{[]int{4, 2, 2}, []int{2, 4, 4}},
		{[]int{2, 4, 2}, []int{4, 2, 4}},
		{[]int{2, 2, 4}, []int{4, 4, 2}},
		{[]int{6, 1, 8, 7, 8, 3}, []int{8, 8, 8, 8, 8, 8}},
		{[]int{6, 1, 8, 7, 2, 3}, []int{8, 8, 7, 8, 8, 8}},
	} {
		var ports []View
		for _, born := range c.born {
			ports = append(ports, open(vid(5), born))
		}
		wants(t, ports, vid(5), -1, c.want...)
		for i, port := range c.want {
			c.want[i] = max(port, 5)
		}
		wants(t, ports, vid(5), 5, c.want...)
	}
}

// TestOwn: what the bridge says itself counts like what is registered at a port of its own, at all ports.
func TestOwn(t *testing.T) {
	ports := []View{open(vid(5), 7), open(vid(5), 5), {Open: true}, {}}
	wants(t, ports, vid(5), 4, 5, 7, 7, -1)
	wants(t, ports, vid(5), 5, 5, 7, 7, -1)
	wants(t, ports, vid(5), 6, 6, 7, 7, -1)
	wants(t, ports, vid(5), 7, 7, 7, 7, -1)
	wants(t, ports, vid(5), 8, 8, 8, 8, -1)
	wants(t, ports, vid(6), 8, 8, 8, 8, -1)
}

// TestShutPorts: what is registered at a port that doesn't forward isn't said elsewhere, nor is anything said there.
func TestShutPorts(t *testing.T) {
	ports := []View{shut(vid(5), 9), open(vid(5), 7), {Open: true}, shut(vid(5), 3), shut(vid(6), 3)}
	wants(t, ports, vid(5), -1, -1, -1, 7, -1, -1)
	wants(t, ports, vid(5), 8, -1, 8, 8, -1, -1)
	wants(t, ports, vid(6), -1, -1, -1, -1, -1, -1)
	wants(t, []View{shut(vid(5), 9), shut(vid(5), 8)}, vid(5), 10, -1, -1)
}

// TestShutPortsCount: of what is registered, and where, it doesn't matter whether a port forwards.
func TestShutPortsCount(t *testing.T) {
	ports := []View{shut(vid(5), 9), open(vid(6), 7), shut(vid(6), 9), open(vid(5), 1), shut(vid(4), 9)}
	all(t, ports, nil, vid(4), vid(5), vid(6))
	members(t, ports, vid(4), 4)
	members(t, ports, vid(5), 0, 3)
	members(t, ports, vid(6), 1, 2)
}

// TestFirstPlace: of an attribute that a port has twice the first place counts, whatever stands at the others.
func TestFirstPlace(t *testing.T) {
	twice := View{Open: true, Attrs: []api.Attr{vid(5), vid(6), vid(5), vid(6)}, Born: []int{3, 8, 9, 4}}
	ports := []View{{Open: true}, twice}
	wants(t, ports, vid(5), -1, 3, -1)
	wants(t, ports, vid(6), -1, 8, -1)
	all(t, ports, nil, vid(5), vid(6))
	members(t, ports, vid(5), 1)
	twice.Born = []int{-1, -7, 9, 9}
	wants(t, []View{{Open: true}, twice}, vid(5), -1, -1, -1)
	wants(t, []View{{Open: true}, twice}, vid(6), -1, -1, -1)
}

// TestBornTooShort: it is as though nothing had been said, but the attribute is registered.
func TestBornTooShort(t *testing.T) {
	attrs := []api.Attr{vid(7), vid(6), vid(5), vid(7)}
	for n, want := range [][]int{{-1, -1, -1}, {4, -1, -1}, {4, 5, -1}, {4, 5, 6}, {4, 5, 6}, {4, 5, 6}} {
		born := []int{4, 5, 6, 7, 8}[:n] // what stands in the room behind it isn't seen
		ports := []View{{Open: true}, {Open: true, Attrs: attrs, Born: born}, open(serv(1), 5)}
		for i, a := range attrs[:3] {
			wants(t, ports, a, -1, want[i], -1, want[i])
			wants(t, ports, a, 2, max(want[i], 2), 2, max(want[i], 2))
			members(t, ports, a, 1)
		}
		all(t, ports, nil, vid(5), vid(6), vid(7), serv(1))
	}
	none := []View{{Open: true}, {Open: true, Attrs: attrs}}
	wants(t, none, vid(7), -1, -1, -1)
	wants(t, none, vid(7), 3, 3, 3)
	members(t, none, vid(7), 1)
}

// TestAttrsTooShort: ticks of nothing count for nothing, nor does what stands in the room behind a list.
func TestAttrsTooShort(t *testing.T) {
	attrs := []api.Attr{vid(5), vid(6), vid(7)}
	ports := []View{{Open: true, Attrs: attrs[:1], Born: []int{3, 9, 9}}, {Open: true}}
	wants(t, ports, vid(5), -1, -1, 3)
	wants(t, ports, vid(6), -1, -1, -1)
	all(t, ports, nil, vid(5))
	members(t, ports, vid(6))
}

// TestBelow: no tick below -1 is answered.
func TestBelow(t *testing.T) {
	for _, a := range belows {
		for _, b := range belows {
			for _, own := range belows {
				wants(t, []View{open(vid(5), a), {Open: true}, open(vid(5), b), shut(vid(5), 9)}, vid(5), own, -1, -1, -1, -1)
			}
			wants(t, []View{open(vid(5), a), {Open: true}, open(vid(5), b)}, vid(5), 0, 0, 0, 0)
			wants(t, []View{open(vid(5), a), {Open: true}, open(vid(5), 0)}, vid(5), b, 0, 0, -1)
		}
	}
}

func TestFar(t *testing.T) {
	for i, a := range far {
		for _, b := range far[:i+1] {
			wants(t, []View{open(vid(5), a), {Open: true}, open(vid(5), b)}, vid(5), -1, b, a, a)
			wants(t, []View{open(vid(5), b), {Open: true}, open(vid(5), a)}, vid(5), math.MinInt, a, a, b)
			wants(t, []View{open(vid(5), b), {Open: true}}, vid(5), a, a, a)
			wants(t, []View{open(vid(5), a), {Open: true}}, vid(5), b, b, a)
		}
	}
}

// TestTypeAndValue: attributes are the same by both.
func TestTypeAndValue(t *testing.T) {
	ports := []View{open(vid(1), 7), open(serv(1), 8), open(group(1), 9), {Open: true}}
	wants(t, ports, vid(1), -1, -1, 7, 7, 7)
	wants(t, ports, serv(1), -1, 8, -1, 8, 8)
	wants(t, ports, group(1), -1, 9, 9, -1, 9)
	wants(t, ports, vid(addr.Group+1), -1, -1, -1, -1, -1)
	wants(t, ports, api.Attr{Type: api.AttrGroup, Value: 1}, -1, -1, -1, -1, -1)
	members(t, ports, vid(1), 0)
	members(t, ports, serv(1), 1)
	members(t, ports, group(1), 2)
	members(t, ports, serv(0))
	members(t, ports, api.Attr{Type: 1 + 1<<32, Value: 1})
	all(t, ports, []api.Attr{serv(0), group(0), vid(2)}, vid(1), vid(2), group(0), group(1), serv(0), serv(1))
}

// TestNoAttrs: what can't be an attribute is told of like others.
func TestNoAttrs(t *testing.T) {
	for i, a := range noAttrs {
		ports := []View{{Open: true}, open(a, 7), open(vid(5), 9)}
		wants(t, ports, a, 3, 7, 3, 7)
		members(t, ports, a, 1)
		for _, b := range noAttrs[:i] {
			wants(t, ports, b, -1, -1, -1, -1)
			members(t, ports, b)
			all(t, []View{open(a, 7)}, []api.Attr{b}, b, a)
			all(t, []View{open(b, 7)}, []api.Attr{a}, b, a)
		}
	}
	backward := slices.Clone(noAttrs)
	slices.Reverse(backward)
	all(t, nil, backward, noAttrs...)
	all(t, []View{{Attrs: backward[3:]}}, backward[:3], noAttrs...)
}

// TestAllInOrder: by type, then value, each once, whoever names it, and how often.
func TestAllInOrder(t *testing.T) {
	order := []api.Attr{vid(1), vid(2), vid(10), vid(300), vid(4094), group(0), group(1), group(1 << 20), serv(0), serv(1)}
	for shift := range order {
		turned := slices.Concat(order[shift:], order[:shift])
		all(t, nil, turned, order...)
		all(t, []View{{Attrs: turned}}, nil, order...)
		all(t, []View{{Attrs: turned}, {Open: true, Attrs: order}}, turned, order...)
		all(t, []View{{Attrs: turned[:3]}, {}, {Open: true, Attrs: turned[2:6]}}, turned[5:], order...)
	}
	all(t, []View{open(serv(1), 1), shut(serv(1), 2)}, []api.Attr{serv(1), serv(1)}, serv(1))
}

// TestOneAloneAndTwo: what is registered at one port alone isn't said there; what is registered at two is said at each: at all places.
func TestOneAloneAndTwo(t *testing.T) {
	for at := range api.MaxPorts {
		for other := range api.MaxPorts {
			ports := make([]View, api.MaxPorts)
			for i := range ports {
				ports[i].Open = true
			}
			ports[at] = open(vid(5), 7)
			ports[other] = open(vid(5), 9)
			for i, born := range Wants(ports, vid(5), -1) {
				want := 9
				switch {
				case at == other && i == at:
					want = -1
				case i == other:
					want = 7
				}
				if born != want {
					t.Fatalf("%d, %d: at %d: %d, not %d", at, other, i, born, want)
				}
			}
		}
	}
}

// TestArgumentsStay: what is handed in isn't changed, the room behind it neither, and isn't kept; an answer is new memory.
func TestArgumentsStay(t *testing.T) {
	attrs := []api.Attr{vid(9), vid(5), vid(9), vid(7), vid(6)}
	more := []api.Attr{serv(1), vid(5), serv(0), vid(8), vid(1)}
	born := []int{9, 5, 3, 7, 6}
	ports := []View{{Open: true, Attrs: attrs[:3], Born: born[:2]}, {Open: true}, {Attrs: attrs[1:2]}, open(vid(1), 1)}
	for n := range 4 {
		list, whole := All(ports[:3], more[:n]...), All(ports[:3], more[:n]...)
		kept := slices.Clone(whole)
		ticks, who := Wants(ports[:3], vid(5), 4), Members(ports[:3], vid(5))
		clear(list[:cap(list)])
		clear(ticks[:cap(ticks)])
		clear(who[:cap(who)])
		if !slices.Equal(whole, kept) {
			t.Fatalf("%v, not %v", whole, kept)
		}
		wants(t, ports[:3], vid(5), 4, 4, 5, -1)
		members(t, ports[:3], vid(5), 0, 2)
	}
	if !slices.Equal(attrs, []api.Attr{vid(9), vid(5), vid(9), vid(7), vid(6)}) || !slices.Equal(born, []int{9, 5, 3, 7, 6}) {
		t.Errorf("%v, %v", attrs, born)
	}
	if !slices.Equal(more, []api.Attr{serv(1), vid(5), serv(0), vid(8), vid(1)}) {
		t.Errorf("%v", more)
	}
	list := All(ports, more...)
	clear(attrs)
	clear(more)
	if !slices.Equal(list, []api.Attr{vid(1), vid(5), vid(8), vid(9), serv(0), serv(1)}) {
		t.Errorf("%v", list)
	}
}

// TestManyPorts: the ports are gone over a few times in all, not once for each of them.
func TestManyPorts(t *testing.T) {
	const n = 1 << 18
	ports := make([]View, n)
	for i := range ports {
		ports[i] = open(vid(5), i)
	}
	want := slices.Repeat([]int{n - 1}, n)
	want[n-1] = n - 2
	if got := Wants(ports, vid(5), -1); !slices.Equal(got, want) {
		t.Error("the latest of others isn't said at each")
	}
	if got := Members(ports, vid(5)); len(got) != n || !slices.IsSorted(got) {
		t.Errorf("%d members", len(got))
	}
	all(t, ports, nil, vid(5))
}
