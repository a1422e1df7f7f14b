package mrpdu

import (
	"math"
	"math/rand"
	"slices"
	"strings"
	"testing"

	"kissgate/api"
)

const firstGroup = 1 << 40 // the least address of many

func word(kind, value, event, born int) api.Word {
	return api.Word{Attr: api.Attr{Type: kind, Value: value}, Event: event, Born: born}
}

// run answers n words whose values go up by one, with one Born, and all kinds of events.
func run(kind, first, n, born int) []api.Word {
	var words []api.Word
	for i := range n {
		words = append(words, word(kind, first+i, (i*5+2)%6, born))
	}
	return words
}

func same(a, b Pdu) bool { return slices.Equal(a.All, b.All) && slices.Equal(a.Words, b.Words) }

// number is a number's bytes.
func number(size, n int) string {
	s := ""
	for range size {
		s = string([]byte{byte(n)}) + s
		n >>= 8
	}
	return s
}

var sizes = map[int]int{1: 2, 2: 6, 3: 1}

// vector is a vector's bytes, whatever is in it; its events are those of the words.
func vector(kind, n, value, born int, words ...api.Word) string {
	s := number(2, n) + number(sizes[kind], value) + number(4, born)
	for i := 0; i < len(words); i += 3 {
		one := 0
		for j := i; j < i+3; j++ {
			one *= 6
			if j < len(words) {
				one += words[j].Event
			}
		}
		s += string([]byte{byte(one)})
	}
	return s
}

// part is a part's bytes around its vectors.
func part(kind int, vectors ...string) string {
	return number(1, kind) + number(1, sizes[kind]) + strings.Join(vectors, "") + "\x00\x00"
}

func whole(parts ...string) string { return "\x00" + strings.Join(parts, "") + "\x00\x00" }

// one is the vector of one word with EvJoinIn.
func one(kind, value, born int) string {
	return vector(kind, 1, value, born, word(kind, value, 1, born))
}

// told is a message's bytes as the chapter tells of them: first its words are cut into rows, then these are written.
func told(p Pdu) string {
	s := "\x00"
	for kind := 1; kind <= 3; kind++ {
		var rows [][]api.Word
		for _, w := range p.Words {
			if w.Attr.Type != kind {
				continue
			}
			if len(rows) > 0 {
				row := rows[len(rows)-1]
				end := row[len(row)-1]
				if end.Attr.Value == w.Attr.Value-1 && end.Born == w.Born && len(row) < 200 {
					rows[len(rows)-1] = append(row, w)
					continue
				}
			}
			rows = append(rows, []api.Word{w})
		}
		all := slices.Contains(p.All, kind)
		if all && len(rows) == 0 {
			s += part(kind, vector(kind, 0x2000, 0, 0))
		}
		var vectors []string
		for i, row := range rows {
			n := len(row)
			if all && i == 0 {
				n += 0x2000
			}
			vectors = append(vectors, vector(kind, n, row[0].Attr.Value, row[0].Born, row...))
		}
		if len(vectors) > 0 {
			s += part(kind, vectors...)
		}
	}
	return s + "\x00\x00"
}

// has fails unless a message has just the bytes that the chapter tells of, and is read from them.
func has(t *testing.T, p Pdu) {
	t.Helper()
	if !Good(p) {
		t.Fatalf("%+v can't be", p)
	}
	want := told(p)
	s, e := Bytes(p)
	if len(want) > 400 {
		if s != "" || e != api.ErrLong {
			t.Fatalf("%d bytes: %d, %d", len(want), len(s), e)
		}
	} else if s != want || e != api.OK {
		t.Fatalf("%+v: %x, %d, not %x", p, s, e, want)
	}
	hears(t, want, p, false)
}

// cannot fails unless a message can't be, and has no bytes.
func cannot(t *testing.T, p Pdu) {
	t.Helper()
	if Good(p) {
		t.Fatalf("%+v can be", p)
	}
	if s, e := Bytes(p); s != "" || e != api.ErrArg {
		t.Fatalf("%+v: %x, %d", p, s, e)
	}
}

// hears fails unless bytes say just that, and something is wrong in them, or isn't.
func hears(t *testing.T, s string, want Pdu, wrong bool) {
	t.Helper()
	p, bad, e := Read(s)
	if e != api.OK || bad != wrong || !same(p, want) {
		t.Fatalf("%x: %+v, %t, %d, not %+v, %t", s, p, bad, e, want, wrong)
	}
}

// far are numbers beyond all bounds, among them such as look like others by their lowest bits.
var far = []int{
	math.MinInt, math.MinInt + 1, -1 << 62, -1<<32 + 1, -1 << 16, -4094, -2, -1,
	1 << 16, 1<<16 + 1, 1<<32 + 1, 1<<33 + 2, 1<<48 | 1, 1<<48 | 1<<40, 1<<62 + 1, math.MaxInt - 1, math.MaxInt,
}

func TestAttr(t *testing.T) {
	for v := -10; v <= 70000; v++ {
		for kind, want := range map[int]bool{0: false, 1: 1 <= v && v <= 4094, 2: false, 3: v == 0 || v == 1, 4: false, -1: false} {
			if got := Attr(api.Attr{Type: kind, Value: v}); got != want {
				t.Fatalf("%d, %d: %t", kind, v, got)
			}
		}
	}
	for bit := range 48 {
		if got := Attr(api.Attr{Type: 2, Value: 1 << bit}); got != (bit == 40) {
			t.Errorf("an address of the bit %d: %t", bit, got)
		}
	}
	for v, want := range map[int]bool{firstGroup - 1: false, firstGroup: true, 1<<41 - 1: true, 1 << 41: false, 0x0180c2000020: true, 1<<48 - 1: true} {
		if got := Attr(api.Attr{Type: 2, Value: v}); got != want {
			t.Errorf("the address %x: %t", v, got)
		}
	}
}

func TestAttrOfFarNumbers(t *testing.T) {
	for _, n := range far {
		for kind := range 5 {
			if Attr(api.Attr{Type: kind, Value: n}) {
				t.Errorf("%d, %d can be", kind, n)
			}
		}
		for _, v := range []int{0, 1, firstGroup} {
			if Attr(api.Attr{Type: n, Value: v}) {
				t.Errorf("%d, %d can be", n, v)
			}
		}
	}
}

// TestCompare holds all attributes of some numbers against each other, those that can't be too.
func TestCompare(t *testing.T) {
	numbers := []int{math.MinInt, -1, 0, 1, 2, 3, 4094, firstGroup, math.MaxInt}
	var list []api.Attr
	for _, kind := range numbers {
		for _, v := range numbers {
			list = append(list, api.Attr{Type: kind, Value: v})
		}
	}
	for i, a := range list {
		for j, b := range list {
			want := 0
			if i < j {
				want = -1
			} else if i > j {
				want = 1
			}
			if got := Compare(a, b); got != want {
				t.Fatalf("%v, %v: %d, not %d", a, b, got, want)
			}
		}
	}
}

func TestNothing(t *testing.T) {
	for _, p := range []Pdu{{}, {All: []int{}, Words: []api.Word{}}} {
		has(t, p)
		if s, e := Bytes(p); s != "\x00\x00\x00" || e != api.OK {
			t.Errorf("%x, %d", s, e)
		}
	}
	hears(t, "\x00\x00\x00", Pdu{}, false)
}

// TestBytesByHand holds messages against bytes that are written out.
func TestBytesByHand(t *testing.T) {
	for want, p := range map[string]Pdu{
		"\x00\x01\x02\x20\x00\x00\x00\x00\x00\x00\x00\x00\x00\x00\x00":                                 {All: []int{1}},
		"\x00\x02\x06\x20\x00\x00\x00\x00\x00\x00\x00\x00\x00\x00\x00\x00\x00\x00\x00":                 {All: []int{2}},
		"\x00\x03\x01\x20\x00\x00\x00\x00\x00\x00\x00\x00\x00\x00":                                     {All: []int{3}},
		"\x00\x01\x02\x00\x01\x0f\xfe\x00\x10\x00\x00\xb4\x00\x00\x00\x00":                             {Words: []api.Word{word(1, 4094, 5, 1<<20)}},
		"\x00\x02\x06\x20\x01\xff\xff\xff\xff\xff\xff\x00\x00\x01\x02\x48\x00\x00\x00\x00":             {All: []int{2}, Words: []api.Word{word(2, 1<<48-1, 2, 258)}},
		"\x00\x03\x01\x00\x02\x00\x00\x00\x00\x07\x2a\x00\x00\x00\x00":                                 {Words: []api.Word{word(3, 0, 1, 7), word(3, 1, 1, 7)}},
		"\x00\x03\x01\x00\x01\x00\x00\x00\x00\x07\x24\x00\x01\x01\x00\x00\x00\x08\x24\x00\x00\x00\x00": {Words: []api.Word{word(3, 0, 1, 7), word(3, 1, 1, 8)}},
	} {
		if s, e := Bytes(p); s != want || e != api.OK {
			t.Errorf("%+v: %x, %d, not %x", p, s, e, want)
		}
		hears(t, want, p, false)
	}
}

// TestAllOfTypes: each row of types, with words of each row of types.
func TestAllOfTypes(t *testing.T) {
	for all := range 8 {
		for of := range 8 {
			var p Pdu
			for kind := 1; kind <= 3; kind++ {
				if all>>(kind-1)&1 > 0 {
					p.All = append(p.All, kind)
				}
				if of>>(kind-1)&1 > 0 {
					first := map[int]int{1: 9, 2: firstGroup, 3: 0}[kind]
					p.Words = append(p.Words, word(kind, first, kind, 4), word(kind, first+1, 5, kind))
				}
			}
			has(t, p)
		}
	}
}

// TestRows: where a row ends, and that it doesn't end elsewhere.
func TestRows(t *testing.T) {
	for _, c := range []struct {
		bytes int // 7 around the rows; of each row 8, and its events
		words []api.Word
	}{
		{7 + 8 + 2, run(1, 5, 4, 9)},
		{7 + 2*9, []api.Word{word(1, 5, 1, 9), word(1, 7, 1, 9)}},
		{7 + 3*9, []api.Word{word(1, 5, 1, 9), word(1, 6, 1, 8), word(1, 7, 1, 9)}},
		{7 + 4*9, []api.Word{word(1, 5, 1, 9), word(1, 6, 1, 9), word(1, 8, 1, 9), word(1, 9, 1, 1), word(1, 10, 1, 1), word(1, 12, 1, 1)}},
	} {
		has(t, Pdu{Words: c.words})
		has(t, Pdu{All: []int{1, 2, 3}, Words: c.words})
		if s, _ := Bytes(Pdu{Words: c.words}); len(s) != c.bytes {
			t.Errorf("%v: %d bytes, not %d", c.words, len(s), c.bytes)
		}
	}
	has(t, Pdu{Words: []api.Word{word(2, 1<<41-1, 1, 1), word(2, 1<<41+1<<40, 1, 1)}})
	has(t, Pdu{Words: []api.Word{word(2, 1<<48-2, 1, 1), word(2, 1<<48-1, 2, 1)}})
	has(t, Pdu{Words: []api.Word{word(1, 4093, 1, 1), word(1, 4094, 1, 1), word(2, firstGroup, 1, 1), word(3, 0, 1, 1), word(3, 1, 1, 1)}})
}

// TestEventsDoNotEndARow: a row of all events is one vector.
func TestEventsDoNotEndARow(t *testing.T) {
	p := Pdu{Words: []api.Word{word(1, 1, 0, 3), word(1, 2, 1, 3), word(1, 3, 2, 3), word(1, 4, 3, 3), word(1, 5, 4, 3), word(1, 6, 5, 3)}}
	has(t, p)
	if s, _ := Bytes(p); s != "\x00\x01\x02\x00\x06\x00\x01\x00\x00\x00\x03\x08\x89\x00\x00\x00\x00" {
		t.Errorf("%x", s)
	}
}

func TestLongRows(t *testing.T) {
	for _, n := range []int{1, 2, 3, 4, 199, 200, 201, 202, 399, 400, 401, 402, 600, 1000, 1029, 1030} {
		for _, all := range [][]int{nil, {1}, {1, 3}} {
			has(t, Pdu{All: all, Words: run(1, 3, n, 77)})
			has(t, Pdu{All: all, Words: run(2, firstGroup+5, n, 0)})
		}
	}
	s, _ := Bytes(Pdu{All: []int{1}, Words: run(1, 3, 201, 77)})
	if want := whole(part(1, vector(1, 0x2000+200, 3, 77, run(1, 3, 200, 77)...), vector(1, 1, 203, 77, run(1, 3, 201, 77)[200:]...))); s != want {
		t.Errorf("%x, not %x", s, want)
	}
}

// TestLongest: 42 rows of one word, and a row that fills the 400 bytes, or goes beyond them by one.
func TestLongest(t *testing.T) {
	var words []api.Word
	for i := range 42 {
		words = append(words, word(1, 1+2*i, 1, 5))
	}
	for n := 1; n <= 24; n++ {
		p := Pdu{Words: slices.Concat(words, run(1, 100, n, 5))}
		has(t, p)
		s, e := Bytes(p)
		if n <= 21 && (e != api.OK || s == "") || n > 21 && (e != api.ErrLong || s != "") {
			t.Errorf("%d: %d bytes, %d", n, len(s), e)
		}
		if (n == 19 || n == 21) && len(s) != 400 {
			t.Errorf("%d: %d bytes, not 400", n, len(s))
		}
	}
	if _, e := Bytes(Pdu{Words: run(1, 1, 1030, 5)}); e != api.OK {
		t.Errorf("1030 words: %d", e)
	}
	for _, n := range []int{1031, 4094} {
		if s, e := Bytes(Pdu{Words: run(1, 1, n, 5)}); e != api.ErrLong || s != "" {
			t.Errorf("%d words: %d", n, e)
		}
	}
}

// TestTooLongAndWrong: what can't be and is too long, can't be.
func TestTooLongAndWrong(t *testing.T) {
	words := run(1, 1, 4094, 5)
	has(t, Pdu{All: []int{1, 2, 3}, Words: words})
	cannot(t, Pdu{All: []int{3, 2}, Words: words})
	cannot(t, Pdu{Words: append(words, word(1, 4095, 1, 5))})
	has(t, Pdu{Words: run(2, firstGroup, 30000, 5)})
}

func TestTypesThatCannotBe(t *testing.T) {
	for _, all := range [][]int{{0}, {4}, {1, 1}, {2, 1}, {3, 1}, {3, 2}, {1, 3, 2}, {2, 2, 3}, {1, 2, 3, 3}, {1, 2, 3, 4}, {0, 1}, {1, 2, 3, 1}} {
		cannot(t, Pdu{All: all})
		cannot(t, Pdu{All: all, Words: run(1, 1, 3, 5)})
	}
	for _, n := range append([]int{5, 255, 256, 257}, far...) {
		cannot(t, Pdu{All: []int{n}})
		cannot(t, Pdu{All: []int{1, n}})
		cannot(t, Pdu{All: []int{n, 3}})
	}
}

func TestWordsThatCannotBe(t *testing.T) {
	ahead, behind := word(1, 3, 1, 1), word(3, 1, 1, 1)
	wrong := []api.Word{
		word(1, 0, 1, 1), word(1, 4095, 1, 1), word(2, 0, 1, 1), word(2, firstGroup-1, 1, 1), word(2, 1<<48, 1, 1), word(3, -1, 1, 1), word(3, 2, 1, 1),
		word(0, 7, 1, 1), word(4, 7, 1, 1), word(-1, 7, 1, 1), word(1, 7, 6, 1), word(1, 7, -1, 1), word(1, 7, 1, -1), word(1, 7, 1, 1<<20+1),
	}
	for _, n := range far {
		wrong = append(wrong, word(1, n, 1, 1), word(2, n, 1, 1), word(3, n, 1, 1), word(n, 7, 1, 1), word(1, 7, n, 1))
		if n < 0 || n > 1<<20 {
			wrong = append(wrong, word(1, 7, 1, n))
		}
	}
	for _, w := range wrong {
		cannot(t, Pdu{Words: []api.Word{w}})
		cannot(t, Pdu{Words: []api.Word{ahead, w}})
		cannot(t, Pdu{Words: []api.Word{ahead, w, behind}})
		cannot(t, Pdu{All: []int{1, 2, 3}, Words: []api.Word{w, behind}})
	}
}

// TestEdgesOfWords: the outermost numbers of a word that can be.
func TestEdgesOfWords(t *testing.T) {
	for event := range 6 {
		for _, born := range []int{0, 1, 255, 256, 65535, 65536, 1<<20 - 1, 1 << 20} {
			for _, w := range []api.Word{word(1, 1, event, born), word(1, 255, event, born), word(1, 256, event, born), word(1, 4094, event, born), word(2, firstGroup, event, born), word(2, 1<<48-1, event, born), word(3, 0, event, born), word(3, 1, event, born)} {
				has(t, Pdu{Words: []api.Word{w}})
				has(t, Pdu{All: []int{w.Attr.Type}, Words: []api.Word{w}})
			}
		}
	}
}

func TestWordsThatDoNotRise(t *testing.T) {
	a, b, c, d := word(1, 5, 1, 1), word(1, 6, 1, 1), word(2, firstGroup, 1, 1), word(3, 0, 1, 1)
	for _, words := range [][]api.Word{{a, a}, {b, a}, {c, a}, {d, a}, {d, c}, {a, c, b}, {a, b, b}, {a, b, d, c}, {a, word(1, 5, 2, 9)}, {a, b, c, d, d}} {
		cannot(t, Pdu{Words: words})
	}
	has(t, Pdu{Words: []api.Word{a, b, c, d}})
}

func TestReadOfNoMessage(t *testing.T) {
	none := []string{""}
	for first := 1; first < 256; first++ {
		for _, rest := range []string{"", "\x00\x00", "\x01\x02\x20\x00\x00\x00\x00\x00\x00\x00\x00\x00\x00\x00"} {
			none = append(none, string([]byte{byte(first)})+rest)
		}
	}
	for _, s := range none {
		if p, bad, e := Read(s); e != api.ErrForm || bad || len(p.All) > 0 || len(p.Words) > 0 {
			t.Fatalf("%x: %+v, %t, %d", s, p, bad, e)
		}
	}
}

func TestReadOfNoEnd(t *testing.T) {
	for _, s := range []string{"\x00", "\x00\x00", "\x00\x00\x01", "\x00\x01", "\x00\x00\x00\x00", "\x00\x00\x00\x01", "\x00\x01\x02", "\x00\x01\x02\x00\x00", whole() + whole(), whole() + part(1, one(1, 5, 1)) + "\x00\x00"} {
		hears(t, s, Pdu{}, true)
	}
	p := Pdu{All: []int{1}, Words: []api.Word{word(1, 5, 1, 9)}}
	s := told(p)
	for _, end := range []string{"", "\x00", "\x00\x01", "\x00\x00\x00", "\x00\x00\x00\x00", "\x00\x00\x01", "\x01", "\x03", "\x03\x01", "\x03\x01\x00\x00", "\x01\x00"} {
		hears(t, s[:len(s)-2]+end, p, true)
	}
}

// TestPartsThatAreWrong puts wrong parts behind a good one, and a good one behind them, which isn't read any more.
func TestPartsThatAreWrong(t *testing.T) {
	ahead := Pdu{All: []int{1}, Words: []api.Word{word(1, 5, 1, 9)}}
	good := part(1, vector(1, 0x2001, 5, 9, ahead.Words[0]))
	for _, wrong := range []string{
		// no type, or not its size
		"\x00\x01", "\x00\x02" + one(1, 6, 1) + "\x00\x00", "\x04\x01" + one(3, 0, 1) + "\x00\x00", "\xff\x02" + one(1, 6, 1) + "\x00\x00", "\x04\x00" + one(3, 0, 1) + "\x00\x00",
		"\x01\x00" + one(1, 6, 1) + "\x00\x00", "\x01\x06" + one(2, firstGroup, 1) + "\x00\x00", "\x01\x01" + one(3, 1, 1) + "\x00\x00", "\x02\x02" + one(1, 6, 1) + "\x00\x00", "\x03\x02" + one(1, 1, 1) + "\x00\x00", "\x02\x05" + one(2, firstGroup, 1) + "\x00\x00",
		// numbers of words
		part(2, vector(2, 0x4000, 0, 0)), part(2, vector(2, 0x4001, firstGroup, 1, word(2, firstGroup, 1, 1))), part(2, vector(2, 0x8001, firstGroup, 1, word(2, firstGroup, 1, 1))), part(2, vector(2, 0xffff, firstGroup, 1, word(2, firstGroup, 1, 1))), part(2, vector(2, 0x6001, firstGroup, 1, word(2, firstGroup, 1, 1))),
		part(2, one(2, firstGroup, 1), vector(2, 0x4000, 0, 0)),
		// 2^13 twice: in one part, and in another one of the type
		part(2, vector(2, 0x2000, 0, 0), vector(2, 0x2000, 0, 0)), part(2, vector(2, 0x2001, firstGroup, 1, word(2, firstGroup, 1, 1)), vector(2, 0x2001, firstGroup+1, 1, word(2, firstGroup+1, 1, 1))), part(2, vector(2, 0x2000, 0, 0), one(2, firstGroup, 1), vector(2, 0x2001, firstGroup+1, 1, word(2, firstGroup+1, 1, 1))), part(1, vector(1, 0x2000, 0, 0)),
		// no words, and not just the 2^13
		part(2, vector(2, 0x2000, firstGroup, 0)), part(2, vector(2, 0x2000, 1, 0)), part(2, vector(2, 0x2000, 0, 1)), part(2, vector(2, 0x2000, 0, 1<<31)), part(2, one(2, firstGroup, 1), vector(2, 0x2000, 0, 1)),
		// events that are none
		part(3, "\x00\x01\x00\x00\x00\x00\x00\xd8"), part(3, "\x00\x01\x00\x00\x00\x00\x00\xff"), part(3, "\x00\x01\x00\x00\x00\x00\x00\x25"), part(3, "\x00\x02\x00\x00\x00\x00\x00\x01"), part(3, "\x20\x01\x00\x00\x00\x00\x00\x01"),
		// nothing said
		part(1), part(2), part(3),
		// too few bytes
		part(2, vector(2, 0x1fff, firstGroup, 0)), part(3, vector(3, 0x3fff, 0, 0)), part(3, vector(3, 200, 0, 0, run(3, 0, 2, 0)...)),
		// words that can't be
		part(1, one(1, 0, 1)), part(1, one(1, 4095, 1)), part(1, one(1, 65535, 1)), part(2, one(2, 0, 1)), part(2, one(2, firstGroup-1, 1)), part(2, one(2, 1<<47, 1)), part(3, one(3, 2, 1)), part(3, one(3, 255, 1)), part(3, one(3, 0, 1<<20+1)), part(3, one(3, 0, 1<<32-1)), part(3, one(3, 0, 1<<31)),
		part(1, vector(1, 2, 4094, 1, run(1, 4094, 2, 1)...)), part(2, vector(2, 2, 1<<41-1, 1, run(2, 1<<41-1, 2, 1)...)), part(2, vector(2, 2, 1<<48-1, 1, run(2, 1<<48-1, 2, 1)...)), part(3, vector(3, 3, 0, 1, run(3, 0, 3, 1)...)), part(3, vector(3, 2, 1, 1, run(3, 1, 2, 1)...)),
		// words that don't rise, in the part and behind the one ahead
		part(1, one(1, 5, 1)), part(1, one(1, 4, 1)), part(1, one(1, 4, 1), one(1, 6, 1)), part(1, one(1, 6, 1), one(1, 6, 1)), part(1, one(1, 7, 1), one(1, 6, 1)), part(1, vector(1, 2, 6, 1, run(1, 6, 2, 1)...), one(1, 7, 1)), part(3, one(3, 1, 1), one(3, 0, 1)),
		// a wrong vector behind good ones
		part(3, one(3, 0, 1), one(3, 2, 1)), part(3, vector(3, 0x2001, 0, 1, word(3, 0, 1, 1)), one(3, 1, 1<<20+1)),
	} {
		hears(t, "\x00"+good+wrong, ahead, true)
		hears(t, whole(good, wrong), ahead, true)
		hears(t, whole(good, wrong, part(3, one(3, 0, 1))), ahead, true)
	}
}

// TestTheFirstPartIsWrong: what stands behind it isn't read, though it were good.
func TestTheFirstPartIsWrong(t *testing.T) {
	for _, wrong := range []string{part(1), part(1, one(1, 0, 1)), part(1, one(1, 4095, 1)), part(1, one(1, 5, 1), one(1, 5, 1)), part(1, vector(1, 0x2000, 0, 1)), part(1, vector(1, 0x4001, 5, 1, word(1, 5, 1, 1))), "\x04\x01\x00\x00", "\x01\x01\x00\x00"} {
		hears(t, whole(wrong, part(2, one(2, firstGroup, 1)), part(3, vector(3, 0x2000, 0, 0))), Pdu{}, true)
	}
}

// TestTypesOutOfOrder: of parts' types it is asked alone whether the message can be with them.
func TestTypesOutOfOrder(t *testing.T) {
	three := Pdu{All: []int{3}}
	hears(t, whole(part(3, vector(3, 0x2000, 0, 0)), part(1, vector(1, 0x2000, 0, 0))), three, true)
	hears(t, whole(part(3, vector(3, 0x2000, 0, 0)), part(3, vector(3, 0x2000, 0, 0))), three, true)
	hears(t, whole(part(3, one(3, 1, 4)), part(1, one(1, 5, 4))), Pdu{Words: []api.Word{word(3, 1, 1, 4)}}, true)
	hears(t, whole(part(3, one(3, 1, 4)), part(1, vector(1, 0x2001, 5, 4, word(1, 5, 1, 4)))), Pdu{Words: []api.Word{word(3, 1, 1, 4)}}, true)
	hears(t, whole(part(3, one(3, 1, 4)), part(1, vector(1, 0x2000, 0, 0))), Pdu{All: []int{1}, Words: []api.Word{word(3, 1, 1, 4)}}, false)
	hears(t, whole(part(3, vector(3, 0x2000, 0, 0)), part(1, one(1, 5, 4))), Pdu{All: []int{3}, Words: []api.Word{word(1, 5, 1, 4)}}, false)
	hears(t, whole(part(1, one(1, 5, 4)), part(1, one(1, 6, 4)), part(1, vector(1, 0x2000, 0, 0))), Pdu{All: []int{1}, Words: []api.Word{word(1, 5, 1, 4), word(1, 6, 1, 4)}}, false)
}

// TestRowsCutOtherwise: what is written as one row may be read of several, and 2^13 may stand in a later one.
func TestRowsCutOtherwise(t *testing.T) {
	words := run(1, 5, 7, 9)
	want := Pdu{Words: words}
	wantAll := Pdu{All: []int{1}, Words: words}
	for cut := 1; cut < len(words); cut++ {
		a, b := words[:cut], words[cut:]
		second := vector(1, len(b), 5+cut, 9, b...)
		hears(t, whole(part(1, vector(1, cut, 5, 9, a...), second)), want, false)
		hears(t, whole(part(1, vector(1, cut, 5, 9, a...)), part(1, second)), want, false)
		hears(t, whole(part(1, vector(1, 0x2000+cut, 5, 9, a...), second)), wantAll, false)
		hears(t, whole(part(1, vector(1, 0x2000, 0, 0), vector(1, cut, 5, 9, a...), second)), wantAll, false)
		hears(t, whole(part(1, vector(1, cut, 5, 9, a...), vector(1, 0x2000+len(b), 5+cut, 9, b...))), wantAll, false)
		hears(t, whole(part(1, vector(1, cut, 5, 9, a...), second, vector(1, 0x2000, 0, 0))), wantAll, false)
	}
}

// TestReadOfMuch: what is read may have more bytes than what is written, and longer rows.
func TestReadOfMuch(t *testing.T) {
	hears(t, whole(part(1, vector(1, 4094, 1, 9, run(1, 1, 4094, 9)...))), Pdu{Words: run(1, 1, 4094, 9)}, false)
	hears(t, whole(part(1, vector(1, 201, 1, 9, run(1, 1, 201, 9)...))), Pdu{Words: run(1, 1, 201, 9)}, false)
	hears(t, whole(part(2, vector(2, 0x3fff, firstGroup, 9, run(2, firstGroup, 8191, 9)...))), Pdu{All: []int{2}, Words: run(2, firstGroup, 8191, 9)}, false)
	hears(t, whole(part(1, vector(1, 4095, 1, 9, run(1, 1, 4095, 9)...))), Pdu{}, true)
	hears(t, whole(part(1, vector(1, 0x3fff, 1, 9, run(1, 1, 8191, 9)...))), Pdu{}, true)
	var words []api.Word
	var parts, vectors []string
	for i := range 50000 {
		w := word(2, firstGroup+2*i, 1, 1)
		words = append(words, w)
		parts = append(parts, part(2, one(2, w.Attr.Value, 1)))
		vectors = append(vectors, one(2, w.Attr.Value, 1))
	}
	hears(t, whole(parts...), Pdu{Words: words}, false)
	hears(t, whole(part(2, vectors...)), Pdu{Words: words}, false)
	hears(t, whole(append(parts, part(2, vectors[0]))...), Pdu{Words: words}, true)
}

// TestReadOfEachBeginning cuts bytes off everywhere: the parts that are whole are heard, and it is seen that something is missing.
func TestReadOfEachBeginning(t *testing.T) {
	p := Pdu{All: []int{1, 3}, Words: slices.Concat(run(1, 5, 4, 9), run(1, 20, 2, 8), run(2, firstGroup, 5, 7), run(3, 0, 2, 0))}
	s := told(p)
	ends := map[int]Pdu{}
	for _, kinds := range []int{0, 1, 2} {
		var some Pdu
		for _, kind := range p.All {
			if kind <= kinds {
				some.All = append(some.All, kind)
			}
		}
		for _, w := range p.Words {
			if w.Attr.Type <= kinds {
				some.Words = append(some.Words, w)
			}
		}
		ends[len(told(some))-2] = some
	}
	ends[len(s)-2] = p
	var want Pdu
	for n := 1; n < len(s); n++ {
		if more, is := ends[n]; is {
			want = more
		}
		hears(t, s[:n], want, true)
	}
	hears(t, s, p, false)
}

// heard is what bytes say, by going over them place by place, and asking of each part whether the whole message can be.
func heard(s string) (Pdu, bool, api.Errno) {
	if s == "" || s[0] != 0 {
		return Pdu{}, false, api.ErrForm
	}
	var p Pdu
	for at := 1; ; {
		if s[at:] == "\x00\x00" {
			return p, false, api.OK
		}
		one, n := heardPart(s[at:])
		with := Pdu{slices.Concat(p.All, one.All), slices.Concat(p.Words, one.Words)}
		if n == 0 || !can(with) {
			return p, true, api.OK
		}
		p = with
		at += n
	}
}

// heardPart is what a part says, and how many bytes it has; 0 of a wrong one.
func heardPart(s string) (Pdu, int) {
	var p Pdu
	if len(s) < 2 || sizes[int(s[0])] == 0 || sizes[int(s[0])] != int(s[1]) {
		return Pdu{}, 0
	}
	kind, size, at := int(s[0]), int(s[1]), 2
	for {
		if len(s) < at+2 {
			return Pdu{}, 0
		}
		n := int(s[at])*256 + int(s[at+1])
		if n == 0 {
			if at == 2 {
				return Pdu{}, 0
			}
			return p, at + 2
		}
		from := at + 2
		at = from + size + 4 + (n%8192+2)/3
		if n > 16383 || len(s) < at {
			return Pdu{}, 0
		}
		value, born := 0, 0
		for i := range size {
			value = value*256 + int(s[from+i])
		}
		for i := range 4 {
			born = born*256 + int(s[from+size+i])
		}
		if n >= 8192 {
			p.All = append(p.All, kind)
		}
		if n == 8192 && (value != 0 || born != 0) {
			return Pdu{}, 0
		}
		for i := range (n%8192 + 2) / 3 * 3 {
			events := int(s[from+size+4+i/3])
			event := []int{events / 36, events / 6 % 6, events % 6}[i%3]
			if events > 215 || i >= n%8192 && event != 0 {
				return Pdu{}, 0
			}
			if i < n%8192 {
				p.Words = append(p.Words, word(kind, value+i, event, born))
			}
		}
	}
}

// can is whether a message can be, as the chapter tells of it.
func can(p Pdu) bool {
	if !slices.IsSorted(p.All) || len(slices.Compact(slices.Clone(p.All))) != len(p.All) {
		return false
	}
	for _, kind := range p.All {
		if kind != 1 && kind != 2 && kind != 3 {
			return false
		}
	}
	for i, w := range p.Words {
		a := w.Attr
		fits := a.Type == 1 && a.Value > 0 && a.Value < 4095 || a.Type == 2 && a.Value>>40&1 == 1 && a.Value>>48 == 0 || a.Type == 3 && a.Value&^1 == 0
		if !fits || w.Event < 0 || w.Event > 5 || w.Born < 0 || w.Born > 1048576 {
			return false
		}
		if i == 0 {
			continue
		}
		b := p.Words[i-1].Attr
		if b.Type > a.Type || b.Type == a.Type && b.Value >= a.Value {
			return false
		}
	}
	return true
}

// drawn is a message that can be, of a draw.
func drawn(r *rand.Rand) Pdu {
	var p Pdu
	for kind := 1; kind <= 3; kind++ {
		if r.Intn(2) == 0 {
			p.All = append(p.All, kind)
		}
		value := map[int]int{1: 1, 2: firstGroup, 3: 0}[kind] + r.Intn(3)
		born := r.Intn(1<<20 + 1)
		for range r.Intn(9) {
			if w := word(kind, value, r.Intn(6), born); Attr(w.Attr) {
				p.Words = append(p.Words, w)
			}
			value++
			if r.Intn(4) == 0 {
				value += r.Intn(5)
			}
			if r.Intn(4) == 0 {
				born = r.Intn(1<<20 + 1)
			}
		}
	}
	return p
}

func TestDrawnMessages(t *testing.T) {
	r := rand.New(rand.NewSource(7))
	for range 20000 {
		has(t, drawn(r))
	}
}

// spoilt is bytes of which some are other ones, gone, there twice, or more.
func spoilt(r *rand.Rand, s string) string {
	b := []byte(s)
	for range 1 + r.Intn(3) {
		i := r.Intn(len(b) + 1)
		j := min(len(b), i+r.Intn(12))
		switch r.Intn(5) {
		case 0:
			b = slices.Delete(b, i, j)
		case 1:
			b = slices.Insert(b, i, slices.Clone(b[i:j])...)
		case 2:
			b = slices.Insert(b, i, byte(r.Intn(4)))
		default:
			if i < len(b) {
				b[i] = []byte{0, 1, 2, 3, 6, 0x20, 0x40, b[i] + 1, byte(r.Intn(256))}[r.Intn(9)]
			}
		}
	}
	return string(b)
}

// TestSpoiltBytes: what is read of all kinds of bytes is what the chapter says, and can be.
func TestSpoiltBytes(t *testing.T) {
	r := rand.New(rand.NewSource(11))
	kinds := map[[2]bool]int{}
	for range 200000 {
		s := spoilt(r, told(drawn(r)))
		want, wrong, fault := heard(s)
		p, bad, e := Read(s)
		if e != fault || bad != wrong || !same(p, want) {
			t.Fatalf("%x: %+v, %t, %d, not %+v, %t, %d", s, p, bad, e, want, wrong, fault)
		}
		if !can(p) || !Good(p) {
			t.Fatalf("%x: %+v can't be", s, p)
		}
		kinds[[2]bool{bad, len(p.Words)+len(p.All) > 0}]++
	}
	if len(kinds) != 4 {
		t.Errorf("not all kinds of bytes: %v", kinds)
	}
}

// TestShortBytes goes over all bytes up to some length, of those that matter there.
func TestShortBytes(t *testing.T) {
	some := []byte{0, 1, 2, 3, 0x20, 0x24, 0xff}
	var over func(s string, more int)
	over = func(s string, more int) {
		want, wrong, fault := heard(s)
		if p, bad, e := Read(s); e != fault || bad != wrong || !same(p, want) {
			t.Fatalf("%x: %+v, %t, %d", s, p, bad, e)
		}
		if more > 0 {
			for _, b := range some {
				over(s+string([]byte{b}), more-1)
			}
		}
	}
	over("", 6)
	over("\x00\x03\x01\x00\x01\x00\x00\x00\x00", 6)
	over("\x00\x03\x01\x20", 5)
	over("\x00\x03\x01\x20\x00\x00\x00\x00\x00\x00\x00", 5)
}

// TestArgumentsAreNotChanged: neither the lists nor the spare room behind them.
func TestArgumentsAreNotChanged(t *testing.T) {
	all := []int{1, 3, 9, 9, 9}
	words := append(run(1, 5, 9, 9), run(1, 1, 9, 2)...)
	allBefore, wordsBefore := slices.Clone(all), slices.Clone(words)
	for _, p := range []Pdu{{all[:2], words[:9]}, {all[:3], words[:9]}, {all[:2], words[:10]}, {all[:0], words[:5]}} {
		Good(p)
		Bytes(p)
		if !slices.Equal(all, allBefore) || !slices.Equal(words, wordsBefore) {
			t.Fatalf("%v, %v", all, words)
		}
	}
}

// TestAnswersAreNewMemory: what is written into an answer, or into a message behind its call, isn't seen any more.
func TestAnswersAreNewMemory(t *testing.T) {
	want := Pdu{All: []int{1, 3}, Words: slices.Concat(run(1, 5, 4, 9), run(3, 0, 2, 0))}
	given := Pdu{All: slices.Clone(want.All), Words: slices.Clone(want.Words)}
	s, _ := Bytes(given)
	clear(given.All)
	clear(given.Words)
	first, _, _ := Read(s)
	second, _, _ := Read(s)
	clear(first.All[:cap(first.All)])
	clear(first.Words[:cap(first.Words)])
	third, _, _ := Read(s)
	if s != told(want) || !same(second, want) || !same(third, want) {
		t.Fatalf("%x, %+v, %+v", s, second, third)
	}
}
