package bridge

import (
	"testing"

	"kissgate/addr"
	"kissgate/api"
	"kissgate/mrpdu"
)

// saysAt fails unless an attribute is to be said at just these ports.
func saysAt(t *testing.T, b *Bridge, a api.Attr, ports ...int) {
	t.Helper()
	var at []int
	for i := range b.Tree().Ports() {
		if b.Party(i).Says(a) {
			at = append(at, i)
		}
	}
	are(t, "Says", at, ports)
}

// TestSpread: what is registered at one port that forwards is to be said at the others that do, of all kinds; what is at two at each.
func TestSpread(t *testing.T) {
	b := open(t, 4)
	b.Link(3, false, 1, settled)
	b.Link(3, true, 1000, settled)
	for _, a := range []api.Attr{vid(7), group(3), serv(0)} {
		comes(t, b, 1, joins(t, settled, a), settled)
		saysAt(t, b, a)
	}
	b.Tick(13)
	for _, a := range []api.Attr{vid(7), group(3), serv(0)} {
		saysAt(t, b, a, 0, 2)
	}
	comes(t, b, 2, joins(t, settled, serv(0)), 13)
	comes(t, b, 3, joins(t, settled, serv(1)), 13)
	b.Tick(14)
	saysAt(t, b, vid(7), 0, 2)
	saysAt(t, b, serv(0), 0, 1, 2)
	saysAt(t, b, serv(1))
	for now := 15; now < 20; now++ {
		b.Tick(now)
		saysAt(t, b, serv(1))
	}
	b.Tick(20) // the port 3 forwards by now
	saysAt(t, b, serv(1), 0, 1, 2)
	saysAt(t, b, vid(7), 0, 2, 3)
}

// TestSettledAhead: what is to be said is settled ahead of what is said at a tick, so that it isn't late.
func TestSettledAhead(t *testing.T) {
	b := open(t, 2)
	b.Tick(13)
	comes(t, b, 1, joins(t, 11, vid(7)), 13)
	f := attrFrame(t, own, mrpdu.Pdu{Words: []api.Word{word(vid(7), api.EvNew, 11)}})
	are(t, "Tick", attrsOut(b.Tick(14)), to(f, 0))
}

// TestOrder: at one tick what is about the tree goes out first, port by port; then what is about attributes.
func TestOrder(t *testing.T) {
	b := open(t, 3)
	b.Say(9, true)
	var ports, kinds []int
	for _, o := range b.Tick(14) {
		ports, kinds = append(ports, o.Port), append(kinds, o.Frame.Dst)
		is(t, "Src", o.Frame.Src, own)
		is(t, "Tagged", o.Frame.Tagged, false)
	}
	are(t, "ports", ports, []int{0, 1, 2, 0, 1, 2})
	are(t, "kinds", kinds, []int{addr.Tree, addr.Tree, addr.Tree, addr.Vlans, addr.Vlans, addr.Vlans})
}

// TestLeaves: what leaves is registered till its Leave ticks are over, which the part sees at its own turn; the others leave it at the next tick.
func TestLeaves(t *testing.T) {
	b := open(t, 2)
	registered(t, b, 0, settled, 7)
	b.Tick(13)
	comes(t, b, 0, attrFrame(t, 5, mrpdu.Pdu{Words: []api.Word{word(vid(7), api.EvLv, 12)}}), 13)
	ticks(b, 14, 36)
	are(t, "Vids", b.Vids(0), []int{7})
	b.Tick(37)
	are(t, "Vids", b.Vids(0), nil)
	saysAt(t, b, vid(7), 1)
	f := attrFrame(t, own, mrpdu.Pdu{Words: []api.Word{word(vid(7), api.EvLv, 12)}})
	are(t, "Tick", attrsOut(b.Tick(38)), to(f, 1))
	saysAt(t, b, vid(7))
	is(t, "Attrs", len(b.Party(1).Attrs()), 0)
}

// TestLatest: the word that was said first last is said, of all the others; as of now, if the bridge says it itself.
func TestLatest(t *testing.T) {
	b := open(t, 3)
	comes(t, b, 0, joins(t, 5, vid(7)), settled)
	comes(t, b, 1, joins(t, 9, vid(7)), settled)
	b.Tick(13)
	said := func(born int) api.Frame {
		return attrFrame(t, own, mrpdu.Pdu{Words: []api.Word{word(vid(7), api.EvNew, born)}})
	}
	are(t, "Tick", attrsOut(b.Tick(14)), []Out{{0, said(9)}, {1, said(5)}, {2, said(9)}})
	b.Say(7, true)
	f := attrFrame(t, own, mrpdu.Pdu{Words: []api.Word{word(vid(7), api.EvJoinIn, 16)}})
	are(t, "Tick", attrsOut(b.Tick(16)), to(f, 0, 1, 2))
}

// TestModes: what is Fixed at a port is said at the others as of now; what is Forbidden there isn't heard of.
func TestModes(t *testing.T) {
	b := open(t, 2)
	b.Mode(0, 7, api.Fixed)
	b.Mode(0, 8, api.Forbidden)
	comes(t, b, 0, joins(t, settled, vid(8)), settled)
	f := attrFrame(t, own, mrpdu.Pdu{Words: []api.Word{word(vid(7), api.EvNew, 14)}})
	are(t, "Tick", attrsOut(b.Tick(14)), to(f, 1))
	saysAt(t, b, vid(7), 1)
	saysAt(t, b, vid(8))
}

// TestFull: where there is no room for all, the first ones in order have it, whoever says them; the rest fails, each time.
func TestFull(t *testing.T) {
	for range 20 {
		b := open(t, 2)
		for n := range 16 {
			b.Say(20+n, true)
		}
		comes(t, b, 0, joins(t, settled, vid(5)), settled)
		b.Tick(13)
		for i, last := range []int{34, 34} { // the port 0 keeps 5, which is registered there
			is(t, "Attrs", len(b.Party(i).Attrs()), 16)
			is(t, "the last one", b.Party(i).Attrs()[15], vid(last))
			is(t, "Fails", b.Party(i).Fails(), 1)
		}
		saysAt(t, b, vid(5), 1)
		b.Tick(14)
		is(t, "Fails", b.Party(1).Fails(), 2)
	}
}

// TestWentDown: what was registered where a link went down is to be said no more.
func TestWentDown(t *testing.T) {
	b := open(t, 3)
	registered(t, b, 0, settled, 7)
	b.Tick(13)
	saysAt(t, b, vid(7), 1, 2)
	b.Link(0, false, 1, 13)
	b.Tick(14)
	saysAt(t, b, vid(7))
	b.Link(2, false, 1, 14)
	registered(t, b, 1, 14, 7)
	ticks(b, 15, 40)
	saysAt(t, b, vid(7))
	is(t, "Attrs", len(b.Party(2).Attrs()), 0)
}
