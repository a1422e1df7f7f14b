package bridge

import (
	"fmt"
	"math/rand"
	"slices"
	"strconv"
	"testing"

	"kissgate/addr"
	"kissgate/api"
	"kissgate/bpdu"
	"kissgate/cost"
	"kissgate/fdb"
	"kissgate/frame"
	"kissgate/mrpdu"
	"kissgate/party"
	"kissgate/tree"
)

// shows answers all that a bridge's parts tell, but what its ports are asked by Access, and what it says itself.
func shows(b *Bridge, now int) string {
	var up []bool
	for i := range b.Tree().Ports() {
		up = append(up, b.Up(i))
	}
	parts := make([]*party.Party, len(up))
	for i := range parts {
		parts[i] = b.Party(i)
	}
	return tells(b.Tree(), b.Table(), parts, up, now)
}

func tells(t *tree.Tree, x *fdb.Table, parts []*party.Party, up []bool, now int) string {
	best := t.Best()
	s := numbers(nil, t.Id(), best.Root, best.Cost, best.Bridge, best.Port, t.Root(), x.Fails())
	for _, p := range x.All() {
		s = numbers(append(s, '\n'), p.Vid, p.Mac, p.Port, p.Seen, one(p.Static))
	}
	for i, p := range parts {
		s = numbers(append(s, "\nport"...), one(up[i]), t.Role(i), t.State(i, now), p.Fails())
		for _, a := range p.Attrs() {
			s = numbers(append(s, '\n'), a.Type, a.Value, one(p.Has(a)), p.Born(a, now), one(p.Says(a)))
		}
	}
	return string(s)
}

// numbers appends numbers to a text.
func numbers(s []byte, list ...int) []byte {
	for _, n := range list {
		s = strconv.AppendInt(append(s, ' '), int64(n), 10)
	}
	return s
}

// one answers 1 for yes.
func one(yes bool) int {
	if yes {
		return 1
	}
	return 0
}

// model is a bridge told of port by port, by parts of its own.
type model struct {
	mac   int
	tree  *tree.Tree
	table *fdb.Table
	parts []*party.Party
	up    []bool
	pvid  []int
	strip []bool
	says  []int
	bad   int
}

func newModel(rank, mac, ports int, draws []int) *model {
	m := &model{mac: mac, tree: tree.New(rank<<48+mac, ports), table: fdb.New(), up: make([]bool, ports), strip: make([]bool, ports)}
	for i := range ports {
		turned := slices.Clone(draws)
		for range min(i, len(turned)) {
			turned = append(turned[1:], turned[0])
		}
		m.parts = append(m.parts, party.New(turned...))
		m.pvid = append(m.pvid, 1)
	}
	return m
}

func (m *model) shows(now int) string { return tells(m.tree, m.table, m.parts, m.up, now) }

// forget: what was seen at a port goes; at all ports, if it is below 0.
func (m *model) forget(port int) {
	for _, p := range m.table.All() {
		if !p.Static && (port < 0 || p.Port == port) {
			m.table.Drop(p.Vid, p.Mac)
		}
	}
}

func (m *model) link(i int, up bool, speed float64, now int) {
	if m.up[i] && !up {
		m.parts[i].Flush(now)
		m.forget(i)
	}
	m.up[i] = up
	m.tree.Set(i, up, cost.Of(speed), now)
}

func (m *model) say(vid int, yes bool) api.Errno {
	others := slices.DeleteFunc(slices.Clone(m.says), func(n int) bool { return n == vid })
	switch {
	case vid < 1 || vid > 4094:
		return api.ErrArg
	case yes && len(others) >= 16:
		return api.ErrFull
	case yes:
		others = append(others, vid)
	}
	m.says = others
	return api.OK
}

func (m *model) in(i int, f api.Frame, now int) []Out {
	_, e := frame.Bytes(f)
	low := f.Dst - 0x0180c2000000
	switch {
	case !m.up[i] || e != api.OK:
	case low == 0 && f.Type == 0:
		b, e := bpdu.Read(f.Data)
		if e != api.OK || m.tree.Hear(i, b, now) != api.OK {
			m.bad++
		} else if b.Change {
			m.forget(-1)
		}
	case low == 33 && f.Type == 0x88f5 || low == 32 && f.Type == 0x88f6:
		p, wrong, e := mrpdu.Read(f.Data)
		if e == api.OK {
			m.parts[i].Hear(p, now)
		}
		if e != api.OK || wrong {
			m.bad++
		}
	case 0 <= low && low < 16 || low == 32 || low == 33:
		m.bad++
	default:
		return m.pass(i, f, now)
	}
	return nil
}

func (m *model) pass(i int, f api.Frame, now int) []Out {
	vid := f.Vid
	if vid == 0 {
		vid = m.pvid[i]
	}
	if m.tree.State(i, now) >= 1 {
		m.table.Learn(vid, f.Src, i, now)
	}
	at := m.table.Find(vid, f.Dst)
	var out []Out
	for j := range m.parts {
		a := api.Attr{Type: 1, Value: vid}
		if j == i || m.tree.State(i, now) != 2 || m.tree.State(j, now) != 2 || !m.parts[j].Has(a) || at >= 0 && at != j {
			continue
		}
		g := api.Frame{Dst: f.Dst, Src: f.Src, Tagged: true, Vid: vid, Prio: f.Prio, Type: f.Type, Data: f.Data}
		if m.strip[j] && m.pvid[j] == vid {
			g.Tagged, g.Vid, g.Prio = false, 0, 0
		}
		out = append(out, Out{j, g})
	}
	return out
}

func (m *model) tick(now int) []Out {
	var out []Out
	m.table.Age(now)
	for _, s := range m.tree.Tick(now) {
		if data, e := bpdu.Bytes(s.Bpdu); e == api.OK {
			out = append(out, Out{s.Port, api.Frame{Dst: 0x0180c2000000, Src: m.mac, Data: data}})
		}
	}
	for _, a := range m.known() {
		born := make([]int, len(m.parts))
		for i := range born {
			born[i] = m.born(i, a, now)
		}
		for i, n := range born {
			m.parts[i].Want(a, n, false)
		}
	}
	for i, p := range m.parts {
		if q, says := p.Tick(now); says && m.up[i] {
			data, _ := mrpdu.Bytes(q)
			out = append(out, Out{i, api.Frame{Dst: 0x0180c2000021, Src: m.mac, Type: 0x88f5, Data: data}})
		}
	}
	return out
}

// known answers the attributes that some port keeps, or that the bridge says itself, in order, each once.
func (m *model) known() []api.Attr {
	var list []api.Attr
	for _, p := range m.parts {
		list = append(list, p.Attrs()...)
	}
	for _, n := range m.says {
		list = append(list, api.Attr{Type: 1, Value: n})
	}
	slices.SortFunc(list, func(a, b api.Attr) int {
		if a.Type != b.Type {
			return a.Type - b.Type
		}
		return a.Value - b.Value
	})
	return slices.Compact(list)
}

// born answers when the word was said first that a port is to say of an attribute; -1: none.
func (m *model) born(i int, a api.Attr, now int) int {
	born := -1
	if m.tree.State(i, now) != 2 {
		return born
	}
	if a.Type == 1 && slices.Contains(m.says, a.Value) {
		born = now
	}
	for j, p := range m.parts {
		if j != i && m.tree.State(j, now) == 2 && p.Has(a) {
			born = max(born, p.Born(a, now))
		}
	}
	return born
}

// both is a bridge, and the model of one to which the same happens.
type both struct {
	t     *testing.T
	d     *rand.Rand
	b     *Bridge
	m     *model
	ports int
	now   int
	vids  int    // from how many networks is drawn
	calm  bool   // whether other bridges say little
	was   string // what it told when it was held against the model last
	count map[string]int
}

func newBoth(t *testing.T, d *rand.Rand, count map[string]int) *both {
	x := &both{t: t, d: d, ports: d.Intn(6) + 1, vids: []int{1, 1, 3, 30}[d.Intn(4)], calm: d.Intn(2) == 0, count: count}
	rank := d.Intn(16)
	var draws []int
	for range d.Intn(8) {
		draws = append(draws, d.Intn(40))
	}
	x.b, x.m = New(rank, own, x.ports, draws...), newModel(rank, own, x.ports, draws)
	for i := range x.ports {
		if d.Intn(6) > 0 {
			x.link(i, true)
		}
	}
	x.same()
	return x
}

func (x *both) vid() int { return []int{1, 2, 7, 4093, 4094}[x.d.Intn(5)] + x.d.Intn(x.vids)*8%90 }

func (x *both) link(i int, up bool) {
	speed := []float64{1000, 10, 0, 1e9}[x.d.Intn(4)]
	is(x.t, "Link", x.b.Link(i, up, speed, x.now), api.OK)
	x.m.link(i, up, speed, x.now)
}

// move does one drawn thing to both.
func (x *both) move() {
	i, n := x.d.Intn(x.ports), x.vid()
	yes := x.d.Intn(3) > 0
	switch k := x.d.Intn(60); {
	case k == 0:
		x.link(i, yes)
	case k == 1 && n <= 4094:
		is(x.t, "Access", x.b.Access(i, n, yes), api.OK)
		x.m.pvid[i], x.m.strip[i] = n, yes
	case k == 2:
		mode := x.d.Intn(4)
		is(x.t, "Mode", x.b.Mode(i, n, mode), x.m.parts[i].Mode(vid(n), mode))
	case k == 3 || k == 4:
		is(x.t, "Say", x.b.Say(n, yes), x.m.say(n, yes))
	case k == 5:
		mac := x.d.Intn(30)
		is(x.t, "Fix", x.b.Fix(n, mac, i), x.m.table.Fix(n, mac, i))
	case k < 35:
		x.comes(i, x.frame())
	default:
		x.now++
		if x.d.Intn(20) == 0 {
			x.now += x.d.Intn(30)
		}
		got := x.b.Tick(x.now)
		are(x.t, "Tick", got, x.m.tick(x.now))
		for _, o := range got {
			x.fits(o)
			x.count[fmt.Sprintf("out %#x", o.Frame.Dst)]++
		}
	}
}

// same fails unless both tell the same.
func (x *both) same() {
	x.was = shows(x.b, x.now)
	is(x.t, "Bad", x.b.Bad(), x.m.bad)
	is(x.t, "all", x.was, x.m.shows(x.now))
}

// comes lets a frame come in, and holds what P20.3 says of it.
func (x *both) comes(i int, f api.Frame) {
	bad := x.b.Bad()
	got := x.b.In(i, f, x.now)
	are(x.t, "In", got, x.m.in(i, f, x.now))
	for _, o := range got {
		x.fits(o)
		p := x.b.Tree().State(o.Port, x.now)
		n := o.Frame.Vid
		if !o.Frame.Tagged {
			n = x.m.pvid[o.Port]
		}
		if p != api.Forwarding || o.Port == i || !slices.Contains(x.b.Vids(o.Port), n) {
			x.t.Errorf("%+v goes out, which came at %d", o, i)
		}
		x.count["data"]++
	}
	if x.b.Bad() > bad {
		x.count["wrong"]++
		if f.Type == 0 || f.Type == addr.TypeData {
			is(x.t, "of what is wrong", shows(x.b, x.now), x.was)
		}
	}
}

// fits holds what P20.2 says of all that goes out.
func (x *both) fits(o Out) {
	if !x.b.Up(o.Port) || !frame.Good(o.Frame) {
		x.t.Errorf("%+v goes out", o)
	}
}

// frame draws a frame: about the tree, about attributes, of data; now and then one that is wrong, or can't be.
func (x *both) frame() api.Frame {
	f := api.Frame{Src: x.d.Intn(30), Type: addr.TypeData, Data: "x"}
	switch k := x.d.Intn(20); {
	case k == 0 && (!x.calm || x.d.Intn(30) == 0):
		f.Dst, f.Type, f.Data = addr.Tree, 0, x.treeData()
	case k < 8:
		f.Dst, f.Type, f.Data = addr.Vlans, addr.TypeVlans, x.attrData()
		if x.d.Intn(3) == 0 {
			f.Dst, f.Type = addr.Group, addr.TypeGroup
		}
	case k == 8:
		f.Dst = []int{addr.Tree, addr.Tree + 5, addr.Tree + 15, addr.Vlans, addr.Group}[x.d.Intn(5)]
	default:
		f.Dst = []int{addr.All, addr.Tree + 16, x.d.Intn(30), x.d.Intn(30)}[x.d.Intn(4)]
		if x.d.Intn(3) > 0 {
			f.Tagged, f.Vid, f.Prio = true, x.vid(), x.d.Intn(8)
		}
		if x.d.Intn(30) == 0 {
			f.Src = 1 << 40
		}
	}
	return f
}

func (x *both) treeData() string {
	bridge := bpdu.Id(x.d.Intn(16), 1+x.d.Intn(9))
	costs := []int{0, 20000, 1<<31 - 30000, 1<<31 - 1}[x.d.Intn(4)]
	b := offer(min(bridge, bpdu.Id(x.d.Intn(16), 1)), costs, bridge, x.d.Intn(6))
	b.Age, b.Change = x.d.Intn(11), x.d.Intn(3) == 0
	if x.d.Intn(9) == 0 {
		b.Role = x.d.Intn(4)
	}
	s, _ := bpdu.Bytes(b)
	return s[x.d.Intn(12)/11:]
}

func (x *both) attrData() string {
	var p mrpdu.Pdu
	for range x.d.Intn(5) {
		a := []api.Attr{vid(x.vid()), vid(x.vid()), group(x.d.Intn(3)), serv(x.d.Intn(2))}[x.d.Intn(4)]
		p.Words = append(p.Words, word(a, x.d.Intn(6), max(0, x.now-x.d.Intn(60))))
	}
	slices.SortFunc(p.Words, func(a, b api.Word) int { return mrpdu.Compare(a.Attr, b.Attr) })
	p.Words = slices.CompactFunc(p.Words, func(a, b api.Word) bool { return a.Attr == b.Attr })
	if x.d.Intn(9) == 0 {
		p.All = []int{api.AttrVid}
	}
	s, _ := mrpdu.Bytes(p)
	if x.d.Intn(12) == 0 && len(s) > 3 {
		s = s[:len(s)-2] + "\x07"
	}
	return s
}

// TestDrawn: drawn things happen to bridges, and to models of them; all that both tell is the same, all the time.
func TestDrawn(t *testing.T) {
	d := rand.New(rand.NewSource(20))
	count := map[string]int{}
	for range 120 {
		x := newBoth(t, d, count)
		for range 600 {
			x.move()
			x.same()
			if t.Failed() { // one drawn fault tells enough
				return
			}
		}
	}
	for _, what := range []string{"data", "wrong", "out 0x180c2000000", "out 0x180c2000021"} {
		if count[what] < 1000 {
			t.Errorf("too little: %d of %s", count[what], what)
		}
	}
}
