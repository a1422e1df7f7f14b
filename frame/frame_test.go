package frame

import (
	"math"
	"strings"
	"testing"

	"kissgate/addr"
	"kissgate/api"
	"kissgate/check"
)

// Beginnings of texts: to all, or to the tree, of the station 1.
const (
	toAll  = "\xff\xff\xff\xff\xff\xff\x00\x00\x00\x00\x00\x01"
	toTree = "\x01\x80\xc2\x00\x00\x00\x00\x00\x00\x00\x00\x01"
)

// plain is a frame of TypeData, without a tag, to all.
var plain = api.Frame{Dst: addr.All, Src: 1, Type: addr.TypeData}

// with answers plain, changed.
func with(change func(f *api.Frame)) api.Frame {
	f := plain
	change(&f)
	return f
}

// far are numbers beyond all ranges of the chapter, among them such as look like others by their lowest bytes.
var far = []int{
	math.MinInt, math.MinInt + 1, math.MinInt + 0x0800, -1 << 48, -1 << 32, -1 << 16, -1 << 13, -1 << 12, -0x0800, -8, -2, -1,
	1 << 48, 1<<48 + 1, 1<<48 + 0x0800, 1<<56 + 7, 1<<62 + 1, math.MaxInt - 1, math.MaxInt,
}

// data answers n bytes of all kinds.
func data(n int) string {
	b := make([]byte, n)
	for i := range b {
		b[i] = byte(i*i*7 + i + 3)
	}
	return string(b)
}

// number answers the lowest bytes of n, the highest of them first.
func number(size, n int) string {
	var b []byte
	for i := size - 1; i >= 0; i-- {
		b = append(b, byte(n>>(8*i)))
	}
	return string(b)
}

// told is the bytes of a frame as the chapter tells of them.
func told(f api.Frame) string {
	s := number(6, f.Dst) + number(6, f.Src)
	if f.Tagged {
		s += "\x81\x00" + number(2, f.Prio*8192+f.Vid)
	}
	if f.Type == 0 {
		s += number(2, 3+len(f.Data)) + "\x42\x42\x03"
	} else {
		s += number(2, f.Type)
	}
	return check.Seal(s + f.Data)
}

// frames answers frames that can be: all kinds, put together with one another.
func frames() []api.Frame {
	var list []api.Frame
	texts := []string{"", "\x00", "hi", "\x42\x42\x03", "\x81\x00\x00\x07\x08\x00", "\u65e5\xff\x00", data(57), data(399), data(400)}
	tags := []api.Frame{{}, {Tagged: true}, {Tagged: true, Vid: 1}, {Tagged: true, Vid: 4094, Prio: 7}, {Tagged: true, Vid: 0x0a5, Prio: 5}, {Tagged: true, Prio: 4}}
	for _, dst := range []int{0, 1, 0xfedcba987654, 0x010203040506, addr.Tree, addr.Vlans, addr.Group, addr.All} {
		for _, src := range []int{0, 1, 0x060504030201, 0xfeffffffffff} {
			for _, kind := range []int{0, 1536, addr.TypeData, addr.TypeTag - 1, addr.TypeTag + 1, addr.TypeVlans, addr.TypeGroup, 65535} {
				for _, tag := range tags {
					for _, text := range texts {
						list = append(list, api.Frame{Dst: dst, Src: src, Tagged: tag.Tagged, Vid: tag.Vid, Prio: tag.Prio, Type: kind, Data: text})
					}
				}
			}
		}
	}
	return list
}

// can fails unless a frame can be, has just the bytes that the chapter tells of, and is read from them.
func can(t *testing.T, f api.Frame) {
	t.Helper()
	if !Good(f) {
		t.Fatalf("%+v: it can't be", f)
	}
	s, e := Bytes(f)
	if e != api.OK || s != told(f) {
		t.Fatalf("%+v: %d, %x, not %x", f, e, s, told(f))
	}
	if got, e := Read(s); e != api.OK || got != f {
		t.Fatalf("%+v: read %+v, %d", f, got, e)
	}
}

// cannot fails unless a frame can't be, and has no bytes.
func cannot(t *testing.T, f api.Frame) {
	t.Helper()
	if Good(f) {
		t.Fatalf("%+v: it can be", f)
	}
	if s, e := Bytes(f); e != api.ErrArg || s != "" {
		t.Fatalf("%+v: %d, %x", f, e, s)
	}
}

// either asks for can or cannot.
func either(t *testing.T, f api.Frame, want bool) {
	t.Helper()
	if want {
		can(t, f)
	} else {
		cannot(t, f)
	}
}

// none fails unless a text is no frame's.
func none(t *testing.T, s string) {
	t.Helper()
	if got, e := Read(s); e != api.ErrForm || got != (api.Frame{}) {
		t.Fatalf("%x: %+v, %d", s, got, e)
	}
}

func TestExample(t *testing.T) {
	s, e := Bytes(plain)
	if len(s) != 16 || e != api.OK {
		t.Errorf("%d bytes, %d", len(s), e)
	}
}

func TestBytesAndRead(t *testing.T) {
	for text, f := range map[string]api.Frame{
		toAll + "\x08\x00":                                         plain,
		toAll + "\x08\x00hi":                                       {Dst: addr.All, Src: 1, Type: addr.TypeData, Data: "hi"},
		toAll + "\x06\x00":                                         {Dst: addr.All, Src: 1, Type: 1536},
		toAll + "\xff\xff\x00":                                     {Dst: addr.All, Src: 1, Type: 65535, Data: "\x00"},
		toAll + "\x81\x00\xa0\x07\x08\x00hi":                       {Dst: addr.All, Src: 1, Tagged: true, Vid: 7, Prio: 5, Type: addr.TypeData, Data: "hi"},
		toAll + "\x81\x00\x00\x00\x08\x00":                         {Dst: addr.All, Src: 1, Tagged: true, Type: addr.TypeData},
		toAll + "\x81\x00\xef\xfe\x88\xf5":                         {Dst: addr.All, Src: 1, Tagged: true, Vid: 4094, Prio: 7, Type: addr.TypeVlans},
		toAll + "\x81\x00\x21\x23\x00\x04BB\x03x":                  {Dst: addr.All, Src: 1, Tagged: true, Vid: 0x123, Prio: 1, Data: "x"},
		toTree + "\x00\x07\x42\x42\x03tree":                        {Dst: addr.Tree, Src: 1, Data: "tree"},
		toTree + "\x00\x03\x42\x42\x03":                            {Dst: addr.Tree, Src: 1},
		toTree + "\x00\x06\x42\x42\x03\x42\x42\x03":                {Dst: addr.Tree, Src: 1, Data: "\x42\x42\x03"},
		toTree + "\x81\x01\x81\x00":                                {Dst: addr.Tree, Src: 1, Type: 0x8101, Data: "\x81\x00"},
		"\xfe\xdc\xba\x98\x76\x54\x02\x00\x00\x00\x00\x0a\x80\xff": {Dst: 0xfedcba987654, Src: 0x02000000000a, Type: 0x80ff},
	} {
		sealed := check.Seal(text)
		if s, e := Bytes(f); e != api.OK || s != sealed {
			t.Errorf("%+v: %x, %d", f, s, e)
		}
		if got, e := Read(sealed); e != api.OK || got != f {
			t.Errorf("%x: %+v, %d", text, got, e)
		}
	}
}

func TestWhatHasBytesIsReadFromThem(t *testing.T) {
	seen := map[string]bool{}
	for _, f := range frames() {
		can(t, f)
		seen[told(f)] = true
	}
	if len(seen) != len(frames()) {
		t.Errorf("%d frames have %d texts", len(frames()), len(seen))
	}
}

func TestDst(t *testing.T) {
	for bit := range 48 {
		can(t, with(func(f *api.Frame) { f.Dst = 1 << bit }))
		can(t, with(func(f *api.Frame) { f.Dst = addr.All ^ 1<<bit }))
	}
	can(t, with(func(f *api.Frame) { f.Dst = 0 }))
	for _, a := range far {
		cannot(t, with(func(f *api.Frame) { f.Dst = a }))
	}
}

func TestSrc(t *testing.T) {
	for bit := range 48 {
		either(t, with(func(f *api.Frame) { f.Src = 1 << bit }), bit != 40)
	}
	can(t, with(func(f *api.Frame) { f.Src = 0 }))
	can(t, with(func(f *api.Frame) { f.Src = 0xfeffffffffff }))
	for _, many := range []int{1 << 40, 1<<41 - 1, 0x010000000001, 0x030000000000, addr.Tree, addr.Vlans, addr.Group, addr.All} {
		cannot(t, with(func(f *api.Frame) { f.Src = many }))
	}
	for _, a := range far {
		cannot(t, with(func(f *api.Frame) { f.Src = a }))
	}
}

func TestVid(t *testing.T) {
	for vid := -5000; vid <= 10000; vid++ {
		tagged := with(func(f *api.Frame) { f.Tagged, f.Vid = true, vid })
		either(t, tagged, 0 <= vid && vid <= 4094)
		either(t, with(func(f *api.Frame) { f.Vid = vid }), vid == 0)
	}
	for _, vid := range far {
		cannot(t, with(func(f *api.Frame) { f.Vid = vid }))
		cannot(t, with(func(f *api.Frame) { f.Tagged, f.Vid = true, vid }))
	}
}

func TestPrio(t *testing.T) {
	for prio := -70; prio <= 70; prio++ {
		either(t, with(func(f *api.Frame) { f.Tagged, f.Vid, f.Prio = true, 7, prio }), 0 <= prio && prio <= 7)
		either(t, with(func(f *api.Frame) { f.Prio = prio }), prio == 0)
	}
	for _, prio := range far {
		cannot(t, with(func(f *api.Frame) { f.Prio = prio }))
		cannot(t, with(func(f *api.Frame) { f.Tagged, f.Prio = true, prio }))
	}
}

func TestType(t *testing.T) {
	for kind := -3000; kind <= 70000; kind++ {
		want := kind == 0 || 1536 <= kind && kind <= 65535 && kind != 0x8100
		either(t, with(func(f *api.Frame) { f.Type = kind }), want)
		either(t, with(func(f *api.Frame) { f.Type, f.Tagged, f.Vid, f.Prio, f.Data = kind, true, 9, 3, "ab" }), want)
	}
	for _, kind := range far {
		cannot(t, with(func(f *api.Frame) { f.Type = kind }))
	}
}

func TestData(t *testing.T) {
	for n := 0; n <= 420; n++ {
		for _, kind := range []int{0, addr.TypeData} {
			either(t, with(func(f *api.Frame) { f.Type, f.Data = kind, data(n) }), n <= 400)
			either(t, with(func(f *api.Frame) { f.Type, f.Data, f.Tagged, f.Vid = kind, data(n), true, 1 }), n <= 400)
		}
	}
	for _, n := range []int{512, 1500, 1501, 1 << 16, 1<<16 + 1, 1<<16 + 400, 1 << 20} {
		cannot(t, with(func(f *api.Frame) { f.Data = strings.Repeat("x", n) }))
		cannot(t, with(func(f *api.Frame) { f.Type, f.Data = 0, strings.Repeat("x", n) }))
	}
}

func TestSeveralFaultsAreOneError(t *testing.T) {
	cannot(t, api.Frame{Dst: -1, Src: addr.All, Vid: 1, Prio: 9, Type: addr.TypeTag, Data: data(401)})
	cannot(t, api.Frame{Dst: 1 << 48, Src: -1, Tagged: true, Vid: 4095, Prio: 8, Type: 1, Data: data(2000)})
}

func TestReadOfNone(t *testing.T) {
	for _, text := range []string{
		"", "\x00", "hi", toAll[:5], toAll[:6], toAll[:11], toAll, toAll + "\x08", toAll + "\x00", toAll + "\x81",
		"\xff\xff\xff\xff\xff\xff\x01\x00\x00\x00\x00\x01\x08\x00", // of many
		"\x00\x00\x00\x00\x00\x01\xff\xff\xff\xff\xff\xff\x08\x00", // of all
		"\x00\x00\x00\x00\x00\x01\x01\x80\xc2\x00\x00\x00\x08\x00", // of the tree
		toAll + "\x81\x00",
		toAll + "\x81\x00\x00",
		toAll + "\x81\x00\x00\x07",
		toAll + "\x81\x00\x00\x07\x08",
		toAll + "\x81\x00\xb0\x07\x08\x00",                 // a bit that is 0 is set
		toAll + "\x81\x00\x10\x00\x08\x00",                 // the same
		toAll + "\x81\x00\x0f\xff\x08\x00",                 // the network 4095
		toAll + "\x81\x00\xef\xff\x08\x00",                 // the same
		toAll + "\x81\x00\x00\x07\x81\x00",                 // TypeTag as a type
		toAll + "\x81\x00\x00\x07\x81\x00\x00\x07\x08\x00", // two tags
		toAll + "\x05\xff",                                 // no type, and no length
		toAll + "\x05\xfe",
		toAll + "\x05\xdd\x42\x42\x03",
		toAll + "\x81\x00\x00\x07\x05\xdd\x42\x42\x03",
		toTree + "\x00\x00",
		toTree + "\x00\x01\x42",
		toTree + "\x00\x02\x42\x42",
		toTree + "\x00\x03\x42\x42",
		toTree + "\x00\x03\x42\x42\x04",
		toTree + "\x00\x03\x42\x43\x03",
		toTree + "\x00\x03\x43\x42\x03",
		toTree + "\x00\x03\x03\x42\x42",
		toTree + "\x00\x02\x42\x42\x03",
		toTree + "\x00\x04\x42\x42\x03",
		toTree + "\x00\x00\x42\x42\x03",
		toTree + "\x03\x00\x42\x42\x03",
		toTree + "\x00\x08\x42\x42\x03tree",
		toTree + "\x00\x06\x42\x42\x03tree",
		toTree + "\x00\x04\x42\x42\x03tree",
		toTree + "\x00\x09\x42\x42\x03tree",
		toTree + "\x00\x04tree",
		toAll + "\x81\x00\x00\x07\x00\x04\x42\x42\x03tree",
		toAll + "\x08\x00" + data(401),
		toAll + "\x08\x00" + data(1000),
		toAll + "\x81\x00\x00\x07\x08\x00" + data(401),
		toTree + "\x01\x94\x42\x42\x03" + data(401),
		toTree + "\x05\xdc\x42\x42\x03" + data(1497),
	} {
		none(t, check.Seal(text))
	}
}

func TestReadOfWhatIsNotSealed(t *testing.T) {
	own := toAll + "\x08\x00hi"
	for _, s := range []string{
		"", "\x00", "\xff\xff", "\x00\x00", own, own + "\x00\x00", "\x00" + check.Seal(own), check.Seal(own) + "\x01", check.Seal(own)[1:],
		check.Seal(own)[:len(own)+1], check.Seal(own)[:len(own)], own + "\x00" + check.Seal(own)[len(own):],
	} {
		none(t, s)
	}
}

// TestReadOfEachBeginning cuts texts off everywhere: only the data may be shorter, where no length tells of them.
func TestReadOfEachBeginning(t *testing.T) {
	for _, f := range []api.Frame{
		{Dst: 3, Src: 5, Type: addr.TypeData, Data: data(9)},
		{Dst: 3, Src: 5, Tagged: true, Vid: 7, Prio: 6, Type: addr.TypeData, Data: data(9)},
		{Dst: 3, Src: 5, Data: data(9)},
		{Dst: 3, Src: 5, Tagged: true, Vid: 7, Prio: 6, Data: data(9)},
	} {
		sealed := told(f)
		text := sealed[:len(sealed)-2]
		for n := range len(text) {
			none(t, text[:n])
			if f.Type == 0 || n < len(text)-9 {
				none(t, check.Seal(text[:n]))
				continue
			}
			got, e := Read(check.Seal(text[:n]))
			want := f
			want.Data = f.Data[:9-(len(text)-n)]
			if e != api.OK || got != want {
				t.Fatalf("%d bytes: %+v, %d", n, got, e)
			}
		}
	}
}

// TestReadOfEachTag puts all two bytes behind TypeTag.
func TestReadOfEachTag(t *testing.T) {
	for tag := range 1 << 16 {
		s := check.Seal(toAll + "\x81\x00" + number(2, tag) + "\x08\x00hi")
		if tag&0x1000 != 0 || tag&0x0fff == 4095 {
			none(t, s)
			continue
		}
		want := api.Frame{Dst: addr.All, Src: 1, Tagged: true, Vid: tag % 4096, Prio: tag / 8192, Type: addr.TypeData, Data: "hi"}
		if got, e := Read(s); e != api.OK || got != want {
			t.Fatalf("%04x: %+v, %d", tag, got, e)
		}
	}
}

// TestReadOfEachType puts all two bytes where a type or a length stands, with and without a tag.
func TestReadOfEachType(t *testing.T) {
	const rest = "\x42\x42\x03hello!"
	for kind := range 1 << 16 {
		for _, tag := range []string{"", "\x81\x00\x20\x09"} {
			s := check.Seal(toAll + tag + number(2, kind) + rest)
			want := api.Frame{Dst: addr.All, Src: 1, Type: kind, Data: rest}
			if tag != "" {
				want = Tag(want, 9, 1)
			}
			switch {
			case kind == len(rest):
				want.Type, want.Data = 0, "hello!"
			case kind == 0x8100 && tag == "":
				// What stands behind it is a tag, 4242, and the type 0368, which is a length.
				none(t, s)
				continue
			case kind < 1536 || kind == 0x8100:
				none(t, s)
				continue
			}
			if got, e := Read(s); e != api.OK || got != want {
				t.Fatalf("%04x behind %q: %+v, %d", kind, tag, got, e)
			}
		}
	}
}

// turned answers a text with the bits of mask turned in one of its bytes.
func turned(s string, i int, mask byte) string {
	b := []byte(s)
	b[i] ^= mask
	return string(b)
}

// spoilable answers frames of all kinds, short enough to be spoilt in every way.
func spoilable() []api.Frame {
	return []api.Frame{
		plain,
		{Dst: addr.Tree, Src: 0x020000000007, Data: "t"},
		{Dst: 9, Src: 8, Tagged: true, Vid: 7, Prio: 5, Type: addr.TypeData, Data: "hi"},
		{Tagged: true},
	}
}

func TestTwoBytesInARow(t *testing.T) {
	for _, f := range spoilable() {
		s := told(f)
		for i := range len(s) - 1 {
			for mask := 1; mask < 1<<16; mask++ {
				none(t, turned(turned(s, i, byte(mask>>8)), i+1, byte(mask)))
			}
		}
	}
}

func TestOneBitOrTwo(t *testing.T) {
	for _, f := range spoilable() {
		s := told(f)
		for a := range 8 * len(s) {
			one := turned(s, a/8, 1<<(a%8))
			none(t, one)
			for b := range a {
				none(t, turned(one, b/8, 1<<(b%8)))
			}
		}
	}
}

// TestTheLongestSpoilt turns each bit of the longest frame, and beside some of them each other one; and bytes in a row.
func TestTheLongestSpoilt(t *testing.T) {
	for _, kind := range []int{0, addr.TypeData} {
		s := told(api.Frame{Dst: 9, Src: 8, Tagged: true, Vid: 7, Prio: 5, Type: kind, Data: data(400)})
		bits := 8 * len(s)
		for a := range bits {
			one := turned(s, a/8, 1<<(a%8))
			none(t, one)
			for b := a % 211; b < bits; b += 211 {
				if b != a {
					none(t, turned(one, b/8, 1<<(b%8)))
				}
			}
		}
		for i := range len(s) - 1 {
			for mask := 1; mask < 1<<16; mask += 1511 {
				none(t, turned(turned(s, i, byte(mask>>8)), i+1, byte(mask)))
			}
		}
	}
}

func TestTagAndUntag(t *testing.T) {
	for _, f := range frames() {
		bare := f
		bare.Tagged, bare.Vid, bare.Prio = false, 0, 0
		if got := Untag(f); got != bare {
			t.Fatalf("Untag(%+v): %+v", f, got)
		}
		for _, vid := range []int{0, 7, 4094} {
			for _, prio := range []int{0, 3, 7} {
				want := bare
				want.Tagged, want.Vid, want.Prio = true, vid, prio
				got := Tag(f, vid, prio)
				if got != want || !Good(got) || Untag(got) != bare {
					t.Fatalf("Tag(%+v, %d, %d): %+v", f, vid, prio, got)
				}
			}
		}
	}
}

// TestTagOfWhatCannotBe: a tag that can't be is put all the same, and a frame that can't be stays as it is beside its tag.
func TestTagOfWhatCannotBe(t *testing.T) {
	for _, n := range append([]int{4095, 4096, 8}, far...) {
		want := with(func(f *api.Frame) { f.Tagged, f.Vid, f.Prio = true, n, n })
		if got := Tag(plain, n, n); got != want {
			t.Errorf("Tag(%d, %d): %+v", n, n, got)
		}
		cannot(t, Tag(plain, n, n))
		if got := Untag(want); got != plain {
			t.Errorf("Untag of the tag %d, %d: %+v", n, n, got)
		}
	}
	odd := api.Frame{Dst: -1, Src: addr.All, Type: addr.TypeTag, Data: data(500)}
	want := odd
	want.Tagged, want.Vid, want.Prio = true, 7, 1
	if got := Tag(odd, 7, 1); got != want {
		t.Errorf("Tag: %+v", got)
	}
	if got := Untag(want); got != odd {
		t.Errorf("Untag: %+v", got)
	}
	if got := Untag(with(func(f *api.Frame) { f.Vid, f.Prio = 5, 3 })); got != plain {
		t.Errorf("Untag of what isn't tagged, but has a network: %+v", got)
	}
}

// TestReadIsOfItsTextAlone asks one text ahead of others and behind them.
func TestReadIsOfItsTextAlone(t *testing.T) {
	s := told(with(func(f *api.Frame) { f.Data = "hi" }))
	ahead, _ := Read(s)
	for _, f := range frames() {
		Read(told(f))
		Read(told(f) + "x")
	}
	if got, e := Read(s); e != api.OK || got != ahead {
		t.Errorf("%+v, then %+v", ahead, got)
	}
}
