package pack

import (
	"math"
	"slices"
	"strings"
	"testing"

	"kissgate/api"
)

// kind is one of the two ways to pack: its calls, and what the chapter says of it.
type kind struct {
	name  string
	pack  func([]int) (string, api.Errno)
	back  func(string, int) ([]int, api.Errno)
	size  func(int) int
	long  int
	kinds int
}

var all = []kind{
	{"threes", Threes, FromThrees, Size3, 3, 6},
	{"fours", Fours, FromFours, Size4, 4, 4},
}

// far are numbers beyond all bounds, among them such as look like others by their lowest bits, or are so after a multiplication.
var far = []int{
	math.MinInt, math.MinInt + 1, -1 << 62, -1 << 32, -1<<32 + 1, -1 << 16, -256, -255, -64, -36, -6, -4, -2, -1,
	6, 7, 8, 16, 36, 64, 215, 216, 255, 256, 257, 259, 1 << 16, 1<<16 + 1, 1<<32 + 1, 1 << 60, 1 << 62, math.MaxInt - 1, math.MaxInt,
}

// told is the bytes of a list as the chapter tells of them.
func (k kind) told(list []int) string {
	list = slices.Clone(list)
	for len(list)%k.long != 0 {
		list = append(list, 0)
	}
	var text []byte
	for len(list) > 0 {
		one := list[0]
		for _, n := range list[1:k.long] {
			one = one*k.kinds + n
		}
		text = append(text, byte(one))
		list = list[k.long:]
	}
	return string(text)
}

// lists gives all lists of n numbers that are within the bounds, each in memory of its own.
func (k kind) lists(n int) func(func([]int) bool) {
	return func(yield func([]int) bool) {
		list := make([]int, n)
		for {
			if !yield(slices.Clone(list)) {
				return
			}
			i := n - 1
			for ; i >= 0 && list[i] == k.kinds-1; i-- {
				list[i] = 0
			}
			if i < 0 {
				return
			}
			list[i]++
		}
	}
}

// mixed answers n numbers that have no order to be seen.
func (k kind) mixed(n int) []int {
	list := make([]int, n)
	at := uint32(n)*2654435761 + 12345
	for i := range list {
		at = at*1664525 + 1013904223
		list[i] = int(at>>16) % k.kinds
	}
	return list
}

// whole fails unless a list has just the bytes that the chapter tells of, and is unpacked from them.
func (k kind) whole(t *testing.T, list []int) {
	t.Helper()
	want := k.told(list)
	if s, e := k.pack(list); e != api.OK || s != want {
		t.Fatalf("%s of %v: %x, %d, not %x", k.name, list, s, e, want)
	}
	if got, e := k.back(want, len(list)); e != api.OK || !slices.Equal(got, list) {
		t.Fatalf("%s from %x, %d: %v, %d, not %v", k.name, want, len(list), got, e, list)
	}
	if k.size(len(list)) != len(want) {
		t.Fatalf("%s: size of %d: %d, not %d", k.name, len(list), k.size(len(list)), len(want))
	}
}

// wrong fails unless a list has no bytes.
func (k kind) wrong(t *testing.T, list []int) {
	t.Helper()
	if s, e := k.pack(list); e != api.ErrArg || s != "" {
		t.Fatalf("%s of %v: %x, %d", k.name, list, s, e)
	}
}

// none fails unless bytes are those of no n numbers.
func (k kind) none(t *testing.T, s string, n int) {
	t.Helper()
	if got, e := k.back(s, n); e != api.ErrForm || len(got) != 0 {
		t.Fatalf("%s from %x, %d: %v, %d", k.name, s, n, got, e)
	}
}

func TestThrees(t *testing.T) {
	for want, list := range map[string][]int{
		"\x33":         {1, 2, 3},
		"\x24":         {1},
		"\x06":         {0, 1},
		"\x01":         {0, 0, 1},
		"\x00":         {0},
		"\xb4":         {5},
		"\xd2":         {5, 5},
		"\xd7":         {5, 5, 5},
		"\xd7\xb4":     {5, 5, 5, 5},
		"\x00\x00":     {0, 0, 0, 0},
		"\x08\x6c":     {0, 1, 2, 3},
		"\x33\xba\x00": {1, 2, 3, 5, 1, 0, 0},
	} {
		if s, e := Threes(list); e != api.OK || s != want {
			t.Errorf("Threes(%v): %x, %d, not %x", list, s, e, want)
		}
		if got, e := FromThrees(want, len(list)); e != api.OK || !slices.Equal(got, list) {
			t.Errorf("FromThrees(%x, %d): %v, %d", want, len(list), got, e)
		}
	}
}

func TestFours(t *testing.T) {
	for want, list := range map[string][]int{
		"\x1b":     {0, 1, 2, 3},
		"\xe4":     {3, 2, 1, 0},
		"\x40":     {1},
		"\x10":     {0, 1},
		"\x04":     {0, 0, 1},
		"\x01":     {0, 0, 0, 1},
		"\xc0":     {3},
		"\xfc":     {3, 3, 3},
		"\xff":     {3, 3, 3, 3},
		"\xff\xc0": {3, 3, 3, 3, 3},
		"\x00\x00": {0, 0, 0, 0, 0},
		"\xe4\x40": {3, 2, 1, 0, 1},
	} {
		if s, e := Fours(list); e != api.OK || s != want {
			t.Errorf("Fours(%v): %x, %d, not %x", list, s, e, want)
		}
		if got, e := FromFours(want, len(list)); e != api.OK || !slices.Equal(got, list) {
			t.Errorf("FromFours(%x, %d): %v, %d", want, len(list), got, e)
		}
	}
}

func TestNothing(t *testing.T) {
	for _, k := range all {
		k.whole(t, nil)
		k.whole(t, []int{})
		for _, n := range []int{math.MinInt, -4, -3, -2, -1, 1, 2, 3, 4, math.MaxInt} {
			k.none(t, "", n)
		}
	}
}

// TestShortLists goes over all lists of some lengths: whole rows, and rows of which numbers are missing.
func TestShortLists(t *testing.T) {
	for _, k := range all {
		for n := range 6 {
			for list := range k.lists(n) {
				k.whole(t, list)
			}
		}
	}
}

func TestLongLists(t *testing.T) {
	for _, k := range all {
		for n := range 300 {
			k.whole(t, k.mixed(n))
		}
		for _, n := range []int{4096, 65535, 65536, 65537, 1 << 20} {
			k.whole(t, k.mixed(n))
			k.whole(t, make([]int, n))
			k.whole(t, slices.Repeat([]int{k.kinds - 1}, n))
		}
	}
}

// TestUnlikeLists: no two lists of one length have the same bytes.
func TestUnlikeLists(t *testing.T) {
	for _, k := range all {
		for n := range 6 {
			of := map[string][]int{}
			for list := range k.lists(n) {
				s, _ := k.pack(list)
				if other, seen := of[s]; seen {
					t.Fatalf("%s: %v and %v: %x", k.name, other, list, s)
				}
				of[s] = list
			}
		}
	}
}

// TestWrongNumbers puts each wrong number at each place.
func TestWrongNumbers(t *testing.T) {
	for _, k := range all {
		for n := 1; n <= 9; n++ {
			for i := range n {
				for _, bad := range append([]int{k.kinds, k.kinds + 1}, far...) {
					list := k.mixed(n)
					list[i] = bad
					k.wrong(t, list)
				}
			}
		}
		k.wrong(t, append(k.mixed(5000), k.kinds))
		k.wrong(t, append([]int{-1}, k.mixed(5000)...))
		k.wrong(t, []int{k.kinds, -k.kinds, 1})
		k.wrong(t, slices.Repeat([]int{-1, k.kinds}, 6))
	}
}

// TestBytesOfAllKinds goes over all texts of up to two bytes, with each n that they may have: they are those of one list, or of none.
func TestBytesOfAllKinds(t *testing.T) {
	for _, k := range all {
		of := make([]map[string][]int, 2*k.long+2)
		for n := range 2*k.long + 1 { // more take three bytes
			of[n] = map[string][]int{}
			for list := range k.lists(n) {
				of[n][k.told(list)] = list
			}
		}
		ask := func(s string) {
			k.none(t, s, -2)
			k.none(t, s, -1)
			for n := range of {
				want, is := of[n][s]
				if !is {
					k.none(t, s, n)
					continue
				}
				if got, e := k.back(s, n); e != api.OK || !slices.Equal(got, want) {
					t.Fatalf("%s from %x, %d: %v, %d, not %v", k.name, s, n, got, e, want)
				}
			}
		}
		ask("")
		for a := range 256 {
			ask(string([]byte{byte(a)}))
			for b := range 256 {
				ask(string([]byte{byte(a), byte(b)}))
			}
		}
	}
}

func TestBytesThatAreNone(t *testing.T) {
	for _, c := range []struct {
		s string
		n int
	}{
		{"\xd8", 3}, {"\xff", 3}, {"\xd8", 1}, {"\xd8\x00", 6}, {"\x00\xd8", 6}, {"\x00\xff", 4}, {"\x33\xd8\x33", 9}, // no events
		{"\x01", 1}, {"\x06", 1}, {"\x25", 1}, {"\x01", 2}, {"\x07", 2}, {"\x00\x01", 4}, {"\xd7\xb5", 4}, {"\xd7\xd7", 5}, // something behind the last one
		{"\x00", 0}, {"\x00", 4}, {"\x00\x00", 3}, {"\x00\x00", 7}, {"\x00\x00\x00", 6}, {"\x33", -1}, {"\x33", -3}, // too few, too many
	} {
		all[0].none(t, c.s, c.n)
	}
	for _, c := range []struct {
		s string
		n int
	}{
		{"\x01", 1}, {"\x10", 1}, {"\x41", 3}, {"\xff", 3}, {"\x3f", 1}, {"\x0f", 2}, {"\x00\x01", 5}, {"\xff\xff", 7},
		{"\x00", 0}, {"\x00", 5}, {"\x00\x00", 4}, {"\x00\x00", 9}, {"\x00\x00\x00", 8}, {"\x1b", -1}, {"\x1b", -4},
	} {
		all[1].none(t, c.s, c.n)
	}
}

// TestLastRowOfMany: what stands behind the last number is asked for behind many whole rows too, and a wrong row among them is seen.
func TestLastRowOfMany(t *testing.T) {
	for _, k := range all {
		rows := strings.Repeat("\x00", 1000)
		n := 1000 * k.long
		for missing := range k.long {
			if got, e := k.back(rows, n-missing); e != api.OK || len(got) != n-missing {
				t.Fatalf("%s: %d missing: %d, %d", k.name, missing, len(got), e)
			}
		}
		k.none(t, rows, n-k.long)
		k.none(t, rows, n+1)
		k.none(t, rows[1:]+"\x01", n-1)
	}
	all[0].none(t, strings.Repeat("\xd7", 999)+"\xd8", 3000)
	all[0].none(t, "\xd8"+strings.Repeat("\xd7", 999), 3000)
}

// TestMoreThanThereAre: no room is made for as many numbers as no text has, and their size doesn't go round.
func TestMoreThanThereAre(t *testing.T) {
	for _, k := range all {
		for _, s := range []string{"", "\x00", "\x00\x00", strings.Repeat("\x00", 4096)} {
			for _, n := range []int{
				math.MinInt, math.MinInt + 1, math.MinInt + 2, math.MinInt + 3, -1 << 32, -1 << 31, -9, -5, -1,
				1 << 31, 1 << 32, 1<<32 + 3, 1 << 61, 1 << 62, 1<<62 + 3, math.MaxInt - 3, math.MaxInt - 2, math.MaxInt - 1, math.MaxInt,
			} {
				k.none(t, s, n)
			}
		}
	}
}

func TestSize(t *testing.T) {
	for _, c := range []struct{ n, three, four int }{
		{math.MinInt, 0, 0}, {math.MinInt + 1, 0, 0}, {-4, 0, 0}, {-3, 0, 0}, {-1, 0, 0}, {0, 0, 0},
		{1, 1, 1}, {2, 1, 1}, {3, 1, 1}, {4, 2, 1}, {5, 2, 2}, {6, 2, 2}, {7, 3, 2}, {8, 3, 2}, {9, 3, 3}, {10, 4, 3}, {12, 4, 3}, {13, 5, 4},
		{200, 67, 50}, {1 << 32, 1431655766, 1 << 30},
		{math.MaxInt - 4, 3074457345618258601, 1<<61 - 1}, {math.MaxInt - 1, 3074457345618258602, 1 << 61}, {math.MaxInt, 3074457345618258603, 1 << 61},
	} {
		if Size3(c.n) != c.three || Size4(c.n) != c.four {
			t.Errorf("%d: %d, %d, not %d, %d", c.n, Size3(c.n), Size4(c.n), c.three, c.four)
		}
	}
}

// TestListsAreNotChanged: neither what is packed nor the spare room behind it.
func TestListsAreNotChanged(t *testing.T) {
	for _, k := range all {
		for n := range 10 {
			for _, last := range []int{0, k.kinds} {
				room := append(k.mixed(n), last, -7, 99, -7, 99)
				before := slices.Clone(room)
				k.pack(room[:n+1])
				if !slices.Equal(room, before) {
					t.Fatalf("%s: %v, then %v", k.name, before, room)
				}
			}
		}
	}
}

// TestAnswersAreNewMemory: what is written into an answer, or into what was packed, isn't seen any more.
func TestAnswersAreNewMemory(t *testing.T) {
	for _, k := range all {
		for _, n := range []int{1, 2, 3, 4, 7, 100} {
			want := k.mixed(n)
			given := slices.Clone(want)
			s, _ := k.pack(given)
			clear(given)
			first, _ := k.back(s, n)
			second, _ := k.back(s, n)
			clear(first[:cap(first)])
			third, _ := k.back(s, n)
			if s != k.told(want) || !slices.Equal(second, want) || !slices.Equal(third, want) {
				t.Fatalf("%s: %v: %x, %v, %v", k.name, want, s, second, third)
			}
		}
	}
}
