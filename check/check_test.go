package check

import (
	"strings"
	"testing"
)

// plain is Of as the chapter tells of it: bit by bit.
func plain(s string) int {
	sum := uint16(0xffff)
	for i := 0; i < len(s); i++ {
		sum ^= uint16(s[i]) << 8
		for range 8 {
			out := sum&0x8000 != 0
			sum <<= 1
			if out {
				sum ^= 0x1021
			}
		}
	}
	return int(sum)
}

// mixed answers a text of n bytes that have no order to be seen; seed tells one such text from another.
func mixed(n, seed int) string {
	b := make([]byte, n)
	at := uint32(seed)*2654435761 + 12345
	for i := range b {
		at = at*1664525 + 1013904223
		b[i] = byte(at >> 24)
	}
	return string(b)
}

// turned answers a text with the bits of mask turned in one of its bytes.
func turned(s string, i int, mask byte) string {
	b := []byte(s)
	b[i] ^= mask
	return string(b)
}

// texts are some of all kinds: empty, short, long, of no runes.
func texts() []string {
	list := []string{
		"", "\x00", "\x00\x00", "\xff", "\xff\xff", "\xff\xff\x00\x00", "\x1d\x0f", "\x00\x00\x1d\x0f", "a", "ab", "123456789", "\xc3\x28\x80", "\u65e5\u672c", "a\nb\x00",
		strings.Repeat("\x00", 40), strings.Repeat("\xff", 40), strings.Repeat("\x84\xcf", 9), strings.Repeat("x", 512), strings.Repeat("\x00", 4200), strings.Repeat("ab", 40000),
	}
	for n := range 530 {
		list = append(list, mixed(n, n+1))
	}
	return list
}

func TestOf(t *testing.T) {
	for s, want := range map[string]int{
		"":                        0xffff,
		"\x00":                    0xe1f0,
		"\x00\x00":                0x1d0f,
		"\xff":                    0xff00,
		"\xff\xff":                0x0000,
		"A":                       0xb915,
		"123456789":               0x29b1,
		"\xff\xff\x00":            0x0000,
		"\xff\xff\x00\x01":        0x1021,
		"123456789\x29\xb1":       0x0000,
		strings.Repeat("A", 256):  0xea0b,
		strings.Repeat("\x00", 9): plain(strings.Repeat("\x00", 9)),
	} {
		if got := Of(s); got != want {
			t.Errorf("Of(%q): %04x, not %04x", s, got, want)
		}
	}
}

func TestOfAllOver(t *testing.T) {
	for _, s := range texts() {
		if got, want := Of(s), plain(s); got != want {
			t.Fatalf("Of(%q): %04x, not %04x", s, got, want)
		}
	}
}

// TestOfEachByte puts each byte behind each of some beginnings, so that all four bits of the table are asked in both halves.
func TestOfEachByte(t *testing.T) {
	seen := map[int]bool{}
	for a := range 256 {
		for b := range 256 {
			s := string([]byte{byte(a), byte(b)})
			got := Of(s)
			if got != plain(s) {
				t.Fatalf("Of(%q): %04x, not %04x", s, got, plain(s))
			}
			seen[got] = true
		}
	}
	if len(seen) != 1<<16 {
		t.Errorf("%d sums of two bytes, not all", len(seen))
	}
}

// TestOfIsOfItsTextAlone asks one text ahead of others and behind them.
func TestOfIsOfItsTextAlone(t *testing.T) {
	ahead := Of("123456789")
	for _, s := range texts() {
		Of(s)
	}
	if got := Of("123456789"); got != ahead || got != 0x29b1 {
		t.Errorf("%04x, then %04x", ahead, got)
	}
}

func TestSeal(t *testing.T) {
	for s, want := range map[string]string{
		"":                  "\xff\xff",
		"\x00":              "\x00\xe1\xf0",
		"\xff":              "\xff\xff\x00",
		"\xff\xff":          "\xff\xff\x00\x00",
		"A":                 "A\xb9\x15",
		"123456789":         "123456789\x29\xb1",
		"123456789\x29\xb1": "123456789\x29\xb1\x00\x00",
	} {
		if got := Seal(s); got != want {
			t.Errorf("Seal(%q): %q, not %q", s, got, want)
		}
	}
}

func TestSealAllOver(t *testing.T) {
	for _, s := range texts() {
		got := Seal(s)
		if len(got) != len(s)+2 || got[:len(s)] != s {
			t.Fatalf("Seal(%q): %q", s, got)
		}
		if high, low := int(got[len(s)]), int(got[len(s)+1]); high<<8|low != plain(s) {
			t.Fatalf("Seal(%q): %q, not of %04x", s, got, plain(s))
		}
	}
}

func TestStrip(t *testing.T) {
	for s, want := range map[string]string{
		"\xff\xff":                  "",
		"\x00\xe1\xf0":              "\x00",
		"\xff\xff\x00":              "\xff",
		"A\xb9\x15":                 "A",
		"123456789\x29\xb1":         "123456789",
		"123456789\x29\xb1\x00":     "123456789\x29", // what is left of a sum goes up alone
		"123456789\x29\xb1\x00\x00": "123456789\x29\xb1",
	} {
		if got, ok := Strip(s); got != want || !ok {
			t.Errorf("Strip(%q): %q %v, not %q", s, got, ok, want)
		}
	}
}

func TestStripWhatIsNotSealed(t *testing.T) {
	for _, s := range []string{
		"", "\x00", "\xff", "a", "\x00\x00", "\xff\xfe", "\xfe\xff", "ab", "\x1d\x0f", "\xe1\xf0", "\x00\xf0\xe1",
		"123456789", "123456789\x29", "123456789\xb1", "123456789\xb1\x29", "123456789\x29\xb0", "123456789\x28\xb1", "12345678\x29\xb1", "23456789\x29\xb1",
		"\x29\xb1123456789", "123456789\x29\xb1\x01", "\x00123456789\x29\xb1", "123456789\x00\x29\xb1", "123456789\xd6\x4e", "123456789\x31\xc3",
	} {
		if got, ok := Strip(s); got != "" || ok {
			t.Errorf("Strip(%q): %q %v", s, got, ok)
		}
	}
}

// TestStripEachSum puts each sum behind a text: one of them is its own.
func TestStripEachSum(t *testing.T) {
	for _, text := range []string{"", "\x00", "123456789", mixed(60, 3)} {
		for sum := range 1 << 16 {
			got, ok := Strip(text + string([]byte{byte(sum >> 8), byte(sum)}))
			own := sum == plain(text)
			if ok != own || (own && got != text) || (!own && got != "") {
				t.Fatalf("%q with %04x: %q %v", text, sum, got, ok)
			}
		}
	}
}

func TestStripIsSealBackwards(t *testing.T) {
	for _, s := range texts() {
		if got, ok := Strip(Seal(s)); got != s || !ok {
			t.Fatalf("%q: %q %v", s, got, ok)
		}
		if got, ok := Strip(Seal(Seal(s))); got != Seal(s) || !ok {
			t.Fatalf("%q twice: %q %v", s, got, ok)
		}
		got, ok := Strip(s)
		if own := len(s) >= 2 && Seal(s[:len(s)-2]) == s; ok != own || (!ok && got != "") {
			t.Fatalf("%q: %q %v", s, got, ok)
		}
	}
}

// spoilt fails where a text that was sealed and then turned is stripped.
func spoilt(t *testing.T, s string) {
	t.Helper()
	if got, ok := Strip(s); got != "" || ok {
		t.Fatalf("%q is stripped: %q", s, got)
	}
}

func TestTwoBytesInARow(t *testing.T) {
	for _, text := range []string{"", "\x00", "12345", mixed(12, 7)} {
		sealed := Seal(text)
		for i := range len(sealed) - 1 {
			for mask := 1; mask < 1<<16; mask++ {
				spoilt(t, turned(turned(sealed, i, byte(mask>>8)), i+1, byte(mask)))
			}
		}
	}
}

func TestTwoBytesInARowOfTheLongest(t *testing.T) {
	for n := 490; n <= 500; n++ {
		sealed := Seal(mixed(n, n))
		for i := range len(sealed) - 1 {
			for mask := 1; mask < 1<<16; mask += 1511 {
				spoilt(t, turned(turned(sealed, i, byte(mask>>8)), i+1, byte(mask)))
			}
		}
	}
}

func TestOneBitOrTwo(t *testing.T) {
	for _, n := range []int{0, 1, 2, 9, 40} {
		sealed := Seal(mixed(n, n+3))
		for a := range 8 * len(sealed) {
			one := turned(sealed, a/8, 1<<(a%8))
			spoilt(t, one)
			for b := range a {
				spoilt(t, turned(one, b/8, 1<<(b%8)))
			}
		}
	}
}

// TestOneBitOrTwoOfTheLongest turns each bit, and beside some of them each other one.
func TestOneBitOrTwoOfTheLongest(t *testing.T) {
	for _, n := range []int{498, 500} {
		sealed := Seal(mixed(n, n))
		bits := 8 * len(sealed)
		for a := range bits {
			one := turned(sealed, a/8, 1<<(a%8))
			spoilt(t, one)
			for b := a % 499; b < bits; b += 499 {
				if b != a {
					spoilt(t, turned(one, b/8, 1<<(b%8)))
				}
			}
		}
	}
}
