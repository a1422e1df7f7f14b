package station

import (
	"math/rand"
	"slices"
	"strconv"
	"strings"
	"testing"

	"kissgate/addr"
	"kissgate/api"
	"kissgate/bridge"
	"kissgate/frame"
	"kissgate/mrpdu"
	"kissgate/party"
)

// model is a station told of by a part of its own.
type model struct {
	part *party.Party
	says [4095]bool
	got  []api.Frame
}

func (m *model) vids() []int {
	var vids []int
	for n, says := range m.says {
		if says {
			vids = append(vids, n)
		}
	}
	return vids
}

func (m *model) say(vid int, yes bool) api.Errno {
	switch {
	case vid < 1 || vid > 4094:
		return api.ErrArg
	case yes && !m.says[vid] && len(m.vids()) >= 16:
		return api.ErrFull
	}
	m.says[vid] = yes
	if !yes {
		m.part.Want(api.Attr{Type: 1, Value: vid}, -1, false)
	}
	return api.OK
}

func (m *model) in(f api.Frame, now int) {
	_, e := frame.Bytes(f)
	low := f.Dst - 0x0180c2000000
	switch {
	case e != api.OK:
	case low == 33 && f.Type == 0x88f5:
		p, _, _ := mrpdu.Read(f.Data)
		m.part.Hear(mrpdu.Pdu{All: p.All}, now)
	case 0 <= low && low < 16 || low == 32 || low == 33:
	case f.Dst == own || f.Dst>>40&1 == 1:
		m.got = append(m.got, f)
		m.got = m.got[:min(len(m.got), 100)]
	}
}

func (m *model) tick(now int) (api.Frame, bool) {
	for _, n := range m.vids() {
		m.part.Want(api.Attr{Type: 1, Value: n}, now, false)
	}
	p, any := m.part.Tick(now)
	if !any {
		return api.Frame{}, false
	}
	data, _ := mrpdu.Bytes(p)
	return api.Frame{Dst: 0x0180c2000021, Src: own, Type: 0x88f5, Data: data}, true
}

// drawnVid draws a network's number, now and then what is none.
func drawnVid(d *rand.Rand) int {
	return []int{0, 1, 2, 7, 4094, 4095, 20 + d.Intn(20), 30 + d.Intn(9)}[d.Intn(8)]
}

// drawnFrame draws one that may come.
func drawnFrame(d *rand.Rand) api.Frame {
	dst := []int{own, own + 1, addr.All, addr.Tree, addr.Tree + 16, addr.Group, addr.Vlans, addr.Vlans, addr.Vlans}[d.Intn(9)]
	f := api.Frame{Dst: dst, Src: d.Intn(9), Type: []int{0, addr.TypeData, addr.TypeVlans, addr.TypeVlans, addr.TypeTag}[d.Intn(5)]}
	if d.Intn(3) == 0 {
		f = frame.Tag(f, drawnVid(d), d.Intn(9))
	}
	p := mrpdu.Pdu{All: [][]int{nil, {1}, {2}, {1, 2, 3}}[d.Intn(4)]}
	if n := drawnVid(d); d.Intn(2) == 0 && addr.Vid(n) {
		p.Words = []api.Word{word(n, d.Intn(6), 5)}
	}
	f.Data, _ = mrpdu.Bytes(p)
	f.Data = f.Data[:len(f.Data)-d.Intn(12)/9]
	return f
}

// TestDrawn: drawn things happen to stations, and to models of them; all that both tell is the same, all the time.
func TestDrawn(t *testing.T) {
	d := rand.New(rand.NewSource(21))
	said := 0
	for range 150 {
		draws := []int{d.Intn(40), d.Intn(40)}[:d.Intn(3)]
		s, m, now := New(own, draws...), &model{part: party.New(draws...)}, 0
		for range 500 {
			switch k := d.Intn(10); {
			case k < 3:
				n, yes := drawnVid(d), d.Intn(4) > 0
				is(t, "Say", s.Say(n, yes), m.say(n, yes))
			case k < 6:
				f := drawnFrame(d)
				s.In(f, now)
				m.in(f, now)
			case k == 6 && d.Intn(20) == 0:
				s.Clear()
				m.got = nil
			default:
				now += 1 + d.Intn(12)/11*d.Intn(30)
				f, any := s.Tick(now)
				g, some := m.tick(now)
				is(t, "Tick", f, g)
				is(t, "Tick", any, some)
				is(t, "Good", frame.Good(f) || !any, true)
				said += len(f.Data)
			}
			are(t, "Vids", s.Vids(), m.vids())
			are(t, "Got", s.Got(), m.got)
			if t.Failed() { // one drawn fault tells enough
				return
			}
		}
	}
	if said < 100000 {
		t.Errorf("too little was said: %d bytes", said)
	}
}

// TestSendDrawn: what it sends can be, and is kept by just those for whom it is.
func TestSendDrawn(t *testing.T) {
	d := rand.New(rand.NewSource(211))
	sent := 0
	for range 5000 {
		a, b := New(d.Intn(3)), New(d.Intn(3))
		vid := drawnVid(d)
		dst := []int{0, 1, 2, -1, 1 << 48, addr.All, 1<<40 + d.Intn(9), addr.Tree + d.Intn(48)}[d.Intn(8)]
		text := strings.Repeat("x", d.Intn(70))
		f, e := a.Send(vid, dst, text)
		low := dst - addr.Tree
		kept := 0 <= low && low < 16 || low == 32 || low == 33
		if vid < 1 || vid > 4094 || dst < 0 || dst >= 1<<48 || kept || len(text) > 64 {
			is(t, "Send", e, api.ErrArg)
			is(t, "Send", f, api.Frame{})
		} else {
			sent++
			is(t, "Send", e, api.OK)
			is(t, "Send", f, api.Frame{Dst: dst, Src: a.Mac(), Tagged: true, Vid: vid, Type: addr.TypeData, Data: text})
			is(t, "Good", frame.Good(f), true)
			b.In(f, 1)
			is(t, "Got", len(b.Got()) == 1, dst == b.Mac() || dst>>40&1 == 1)
		}
		if t.Failed() {
			return
		}
	}
	if sent < 500 {
		t.Errorf("too little was sent: %d", sent)
	}
}

// TestAtBridge: what a station says is registered at the bridge's port to which it leads, as long as it is said, and no more behind its end, whoever of them asks for all.
func TestAtBridge(t *testing.T) {
	d := rand.New(rand.NewSource(212))
	for range 60 {
		b, s := bridge.New(8, 0x20, 1, d.Intn(40), d.Intn(40)), New(own, d.Intn(40), d.Intn(40))
		b.Link(0, true, 1000, 0)
		var since, ended [20]int // 0: it isn't said; nothing has ended
		for now := 1; now < 600; now++ {
			if f, any := s.Tick(now); any {
				b.In(0, f, now)
			}
			for _, o := range b.Tick(now) {
				s.In(o.Frame, now)
			}
			vids := b.Vids(0)
			for n := range since {
				has := slices.Contains(vids, n)
				what := strconv.Itoa(n) + " at " + strconv.Itoa(now)
				switch {
				case since[n] > 0 && now >= since[n]+8:
					is(t, what, has, true)
				case since[n] == 0 && (ended[n] == 0 || now >= ended[n]+api.Leave+8):
					is(t, what, has, false)
				}
			}
			if n := 1 + d.Intn(19); d.Intn(12) == 0 {
				if since[n] > 0 {
					is(t, "Say", s.Say(n, false), api.OK)
					since[n], ended[n] = 0, now
				} else if s.Say(n, true) == api.OK {
					since[n], ended[n] = now, 0
				}
			}
			if t.Failed() {
				return
			}
		}
		is(t, "Got", len(s.Got()), 0)
		is(t, "Bad", b.Bad(), 0)
	}
}
