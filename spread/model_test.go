package spread

import (
	"math/rand"
	"slices"
	"testing"

	"kissgate/api"
)

// slowWants is what is to be said at each port, worked out port by port.
func slowWants(ports []View, a api.Attr, own int) []int {
	var list []int
	for i := range ports {
		born := -1
		if ports[i].Open {
			born = max(born, own)
			for k := range ports {
				if k != i && ports[k].Open {
					born = max(born, firstBorn(ports[k], a))
				}
			}
		}
		list = append(list, born)
	}
	return list
}

// firstBorn answers a port's tick of an attribute; -1, if it has none.
func firstBorn(v View, a api.Attr) int {
	for i, b := range v.Attrs {
		if b == a {
			if i < len(v.Born) {
				return v.Born[i]
			}
			return -1
		}
	}
	return -1
}

// has answers whether an attribute is registered at a port.
func has(v View, a api.Attr) bool {
	for _, b := range v.Attrs {
		if b == a {
			return true
		}
	}
	return false
}

// drawView draws a port, of some attributes; now and then one whose lists don't go together.
func drawView(d *rand.Rand, pool []api.Attr) View {
	v := View{Open: d.Intn(4) > 0}
	for range d.Intn(5) {
		v.Attrs = append(v.Attrs, pool[d.Intn(len(pool))])
		v.Born = append(v.Born, d.Intn(12)-2)
	}
	switch d.Intn(8) {
	case 0:
		v.Born = v.Born[:d.Intn(len(v.Born)+1)]
	case 1:
		v.Born = append(v.Born, d.Intn(20))
	}
	return v
}

// TestDrawn: all calls, of drawn ports, against what is worked out port by port.
func TestDrawn(t *testing.T) {
	d := rand.New(rand.NewSource(17))
	pool := []api.Attr{vid(1), vid(2), vid(3), group(1), serv(0), serv(1)} // in order
	said := 0
	for range 30000 {
		ports := make([]View, d.Intn(api.MaxPorts+2))
		for i := range ports {
			ports[i] = drawView(d, pool)
		}
		var more, whole []api.Attr
		for range d.Intn(4) {
			more = append(more, pool[d.Intn(len(pool))])
		}
		for _, a := range pool {
			own := d.Intn(14) - 4
			wants(t, ports, a, own, slowWants(ports, a, own)...)
			var at []int
			for i, port := range ports {
				if has(port, a) {
					at = append(at, i)
				}
			}
			members(t, ports, a, at...)
			if len(at) > 0 || slices.Contains(more, a) {
				whole = append(whole, a)
			}
			said += len(at)
		}
		all(t, ports, more, whole...)
	}
	if said < 10000 {
		t.Errorf("too few: %d", said)
	}
}
