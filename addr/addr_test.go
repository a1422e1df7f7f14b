package addr

import (
	"fmt"
	"math"
	"strings"
	"testing"

	"kissgate/api"
)

// far are numbers beyond all ranges of the chapter, among them such as look like others by their lowest bytes.
var far = []int{
	math.MinInt, math.MinInt + 1, -1 << 48, -1 << 40, -1 << 32, -1500, -2, -1,
	1 << 48, 1<<48 + 1, 1<<48 + 100, 1<<48 + 1<<40, 1<<48 + 2000, 1<<48 + Tree, 1<<48 + Vlans, 1<<56 + 1, 1<<62 + 1<<40, math.MaxInt - 1, math.MaxInt,
}

// inside holds a call of a number against the one range in which it is true.
func inside(t *testing.T, name string, call func(int) bool, first, last int) {
	t.Helper()
	for n := -10; n <= 70000; n++ {
		if call(n) != (first <= n && n <= last) {
			t.Fatalf("%s(%d): %v", name, n, call(n))
		}
	}
	for n := range bits() {
		if call(n) != (first <= n && n <= last) {
			t.Fatalf("%s(%#x): %v", name, n, call(n))
		}
	}
	for _, n := range far {
		if call(n) {
			t.Fatalf("%s(%d)", name, n)
		}
	}
}

// bits gives all powers of two, and what lies beside them, on both sides of 0.
func bits() func(func(int) bool) {
	return func(yield func(int) bool) {
		for bit := range 64 {
			for near := -1; near <= 1; near++ {
				if n := 1<<bit + near; !yield(n) || !yield(-n) {
					return
				}
			}
		}
	}
}

func TestRanges(t *testing.T) {
	inside(t, "Good", Good, 0, 1<<48-1)
	inside(t, "Vid", Vid, 1, 4094)
	inside(t, "Type", Type, 1536, 65535)
	inside(t, "Length", Length, 0, 1500)
}

func TestNames(t *testing.T) {
	for name, c := range map[string]struct{ is, want int }{
		"Most":      {Most, 281474976710655},
		"Tree":      {Tree, 0x0180c2000000},
		"Group":     {Group, 0x0180c2000020},
		"Vlans":     {Vlans, 0x0180c2000021},
		"All":       {All, 0xffffffffffff},
		"TypeTag":   {TypeTag, 0x8100},
		"TypeVlans": {TypeVlans, 0x88f5},
		"TypeGroup": {TypeGroup, 0x88f6},
		"TypeData":  {TypeData, 0x0800},
	} {
		if c.is != c.want {
			t.Errorf("%s: %#x", name, c.is)
		}
	}
}

func TestGood(t *testing.T) {
	for a, want := range map[int]bool{-1: false, 0: true, 1: true, Tree: true, All - 1: true, All: true, All + 1: false} {
		if Good(a) != want {
			t.Errorf("Good(%#x): %v", a, Good(a))
		}
	}
}

func TestMany(t *testing.T) {
	for a, want := range map[int]bool{
		0: false, 1: false, 2: false, 1 << 39: false, 1 << 41: false, 1 << 47: false,
		1<<40 - 1: false, 0xfeffffffffff: false, 0x020000000001: false,
		1 << 40: true, 1<<40 + 1: true, 1<<41 - 1: true, 0x030000000000: true, Tree: true, Vlans: true, Group: true, All: true,
	} {
		if Many(a) != want {
			t.Errorf("Many(%#x): %v", a, Many(a))
		}
	}
}

func TestManyByFirstByte(t *testing.T) {
	for first := range 256 {
		for _, rest := range []int{0, 1, 1<<40 - 1} {
			if a := first<<40 | rest; Many(a) != (first%2 == 1) {
				t.Errorf("Many(%#x): %v", a, Many(a))
			}
		}
	}
}

func TestKept(t *testing.T) {
	for near := -300; near <= 300; near++ {
		want := near >= 0 && near <= 0x0f || near == 0x20 || near == 0x21
		if a := Tree + near; Kept(a) != want {
			t.Errorf("Kept(%#x): %v", a, Kept(a))
		}
	}
	for a := range bits() {
		if Kept(a) {
			t.Errorf("Kept(%#x)", a)
		}
	}
	for bit := range 64 {
		for _, of := range []int{Tree, Tree + 15, Group, Vlans} {
			a := of ^ 1<<bit
			want := Tree <= a && a <= Tree+15 || a == Group || a == Vlans
			if Kept(a) != want {
				t.Errorf("Kept(%#x): %v", a, Kept(a))
			}
		}
	}
}

func TestWhatIsNoAddressIsOfNoKind(t *testing.T) {
	for _, a := range far {
		if Good(a) || Many(a) || Kept(a) || Show(a) != "" {
			t.Errorf("%#x: %v, %v, %v, %q", a, Good(a), Many(a), Kept(a), Show(a))
		}
	}
}

// texts are addresses, and their texts.
var texts = map[int]string{
	0:              "00:00:00:00:00:00",
	1:              "00:00:00:00:00:01",
	0x10:           "00:00:00:00:00:10",
	0x100:          "00:00:00:00:01:00",
	0xfedcba:       "00:00:00:fe:dc:ba",
	0x010203040506: "01:02:03:04:05:06",
	0x0123456789ab: "01:23:45:67:89:ab",
	0xabcdef987654: "ab:cd:ef:98:76:54",
	0x02000000000a: "02:00:00:00:00:0a",
	0x7fffffffffff: "7f:ff:ff:ff:ff:ff",
	0x800000000000: "80:00:00:00:00:00",
	Tree:           "01:80:c2:00:00:00",
	Group:          "01:80:c2:00:00:20",
	Vlans:          "01:80:c2:00:00:21",
	All:            "ff:ff:ff:ff:ff:ff",
}

func TestShowAndParse(t *testing.T) {
	for a, text := range texts {
		if got := Show(a); got != text {
			t.Errorf("Show(%#x): %q", a, got)
		}
		if got, e := Parse(text); got != a || e != api.OK {
			t.Errorf("Parse(%q): %#x, %d", text, got, e)
		}
	}
}

func TestParseOfNone(t *testing.T) {
	for _, text := range []string{
		"", ":", ":::::", "::", "0", "00", "1", "hello", "\x00", "-",
		"00:00:00:00:00", "00:00:00:00:00:", ":00:00:00:00:00", "00:00:00:00:00:0", "0:00:00:00:00:00",
		"00:00:00:00:00:00:", ":00:00:00:00:00:00", "00:00:00:00:00:00:00", "00:00:00:00:00:000", "000:00:00:00:00:00",
		"00:00:00:00:00:00 ", " 00:00:00:00:00:00", "00:00:00:00:00:00\n", "00:00:00:00:00:00\x00",
		"000000000000", "00000000000000000", "00-00-00-00-00-00", "00.00.00.00.00.00", "0000:0000:0000", "00:00:00:00:00-00",
		"0:000:00:00:00:00", "00::0:00:00:00:00", "00:00:00:00:0000:", "0:0:0:0:0:0", ":::::::::::::::::", "0000:00:00:00:00:0",
		"0A:00:00:00:00:00", "00:00:00:00:00:0F", "FF:FF:FF:FF:FF:FF", "01:80:C2:00:00:21",
		"0g:00:00:00:00:00", "00:00:00:00:00:0g", "00:00:00:00:00:g0", "0x:00:00:00:00:00", "0x00:00:00:00:00", "+0:00:00:00:00:00", "-1:00:00:00:00:00", "0 :00:00:00:00:00", "0_:00:00:00:00:00",
		"00:00:00:00:00:é", "é:00:00:00:00:00", "00:00:00:00:00:0é", "00:00:00:00:00é00", "00é0:00:00:00:00",
		"00:00:00:00:00:٣", "0٣:00:00:00:00:0", "0１:00:00:00:00", "０0:00:00:00:00:00", "00：00:00:00:00", "00:00:00:00:00:0\xff", "\xff0:00:00:00:00:00", "00\xff00:00:00:00:00", "00:00:00:00:00:\xc3\xa9", "00:00:00:00:00:\ufffd",
		strings.Repeat("\xff", 17), strings.Repeat("\x00", 17), strings.Repeat("é", 17), strings.Repeat("ff:", 1000), strings.Repeat("0", 1<<20),
	} {
		if a, e := Parse(text); a != 0 || e != api.ErrForm {
			t.Errorf("Parse(%q): %#x, %d", text, a, e)
		}
	}
}

// plain is Parse as the chapter tells of it: the text of just one address, of which there is none other.
func plain(text string) (int, api.Errno) {
	var bytes [6]int
	n, err := fmt.Sscanf(text, "%02x:%02x:%02x:%02x:%02x:%02x", &bytes[0], &bytes[1], &bytes[2], &bytes[3], &bytes[4], &bytes[5])
	a := 0
	for _, b := range bytes {
		a = a<<8 + b
	}
	if n != 6 || err != nil || shown(a) != text {
		return 0, api.ErrForm
	}
	return a, api.OK
}

// shown is Show as the chapter tells of it, of an address.
func shown(a int) string {
	text := fmt.Sprintf("%012x", a)
	for at := 10; at > 0; at -= 2 {
		text = text[:at] + ":" + text[at:]
	}
	return text
}

func TestParseWithOneByteOther(t *testing.T) {
	for _, text := range texts {
		for at := range len(text) {
			for b := range 256 {
				other := text[:at] + string([]byte{byte(b)}) + text[at+1:]
				want, none := plain(other)
				if got, e := Parse(other); got != want || e != none {
					t.Fatalf("Parse(%q): %#x, %d, not %#x, %d", other, got, e, want, none)
				}
			}
		}
	}
}

func TestParseWithOneByteMoreOrLess(t *testing.T) {
	for _, text := range texts {
		for at := range len(text) + 1 {
			for _, more := range []string{"0", "f", ":", "F", " ", "\x00", "\xff", "é", "0:", ":0", "00:", ":00", "000"} {
				if a, e := Parse(text[:at] + more + text[at:]); a != 0 || e != api.ErrForm {
					t.Fatalf("Parse(%q): %#x, %d", text[:at]+more+text[at:], a, e)
				}
			}
			for to := at + 1; to <= len(text); to++ {
				if a, e := Parse(text[:at] + text[to:]); a != 0 || e != api.ErrForm {
					t.Fatalf("Parse(%q): %#x, %d", text[:at]+text[to:], a, e)
				}
			}
		}
	}
}

func TestParseWithRunesOfMoreBytes(t *testing.T) {
	for _, text := range texts {
		for _, r := range []rune{'é', '٣', '１', '：', 'ａ', 0xfffd, 0x10ffff, 0x1d7d8, 'a' + 1<<8, '0' + 1<<8, ':' + 1<<8, '0' + 1<<16} {
			wide := string(r)
			for at := range len(text) {
				for _, over := range []int{1, len(wide)} {
					other := text[:at] + wide + text[min(at+over, len(text)):]
					if a, e := Parse(other); a != 0 || e != api.ErrForm {
						t.Fatalf("Parse(%q): %#x, %d", other, a, e)
					}
				}
			}
		}
	}
}

// spread gives addresses all over: each byte alone, all bits, and many by a rule.
func spread() func(func(int) bool) {
	return func(yield func(int) bool) {
		for at := range 6 {
			for b := range 256 {
				if !yield(b<<(8*at)) || !yield(Most^b<<(8*at)) {
					return
				}
			}
		}
		a := 1
		for range 20000 {
			a = (a*0x5deece66d + 11) & Most
			if !yield(a) {
				return
			}
		}
	}
}

func TestWhatIsShownIsParsed(t *testing.T) {
	for a := range spread() {
		text := Show(a)
		if text != shown(a) {
			t.Fatalf("Show(%#x): %q", a, text)
		}
		if got, e := Parse(text); got != a || e != api.OK {
			t.Fatalf("Parse(%q): %#x, %d", text, got, e)
		}
	}
}

func TestWhatIsParsedIsShown(t *testing.T) {
	const digits = "0123456789abcdefABCDEFg:"
	for a := range spread() {
		text := []byte(shown(a))
		text[a%17] = digits[a/17%len(digits)]
		got, e := Parse(string(text))
		if e == api.OK && Show(got) != string(text) {
			t.Fatalf("%q is parsed, and shown as %q", text, Show(got))
		}
		want, none := plain(string(text))
		if got != want || e != none {
			t.Fatalf("Parse(%q): %#x, %d, not %#x, %d", text, got, e, want, none)
		}
	}
}

func TestParseOfWhatIsNotShown(t *testing.T) {
	for _, a := range far {
		if got, e := Parse(Show(a)); got != 0 || e != api.ErrForm {
			t.Errorf("Parse(Show(%#x)): %#x, %d", a, got, e)
		}
	}
}
