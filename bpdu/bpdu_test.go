package bpdu

import (
	"math"
	"math/rand"
	"strings"
	"testing"

	"kissgate/api"
)

const (
	mac  = 1<<48 - 1
	many = 1 << 40 // of an address: that it is one of many
)

// plain is a message of the bridge 3, at its first port, whose root is the bridge 2.
var plain = api.Bpdu{Vector: api.Vector{Root: 2, Cost: 4, Bridge: 3}, Role: api.RoleDesignated}

// with answers plain, changed.
func with(change func(b *api.Bpdu)) api.Bpdu {
	b := plain
	change(&b)
	return b
}

// far are numbers beyond all ranges of the chapter, among them such as look like others by their lowest bytes.
var far = []int{
	math.MinInt, math.MinInt + 1, math.MinInt + 1<<52, -1 << 62, -1 << 53, -1 << 52, -1<<52 + 1, -1 << 48, -1<<48 + 1, -1 << 32, -1<<32 + 1, -1 << 16, -256, -16, -2, -1,
	1 << 52, 1<<52 + 1, 1<<52 + 1<<48, 1<<53 + 2, 1<<56 + 1, 1<<60 + 1<<48, 1<<62 + 1, math.MaxInt - 1, math.MaxInt,
}

// names are bridges' names: ranks and addresses of all kinds.
var names = []int{
	1, 0xa, 0xff, 1 << 39, 1<<40 - 1, 1 << 41, 1 << 47, 0xfeffffffffff, 0x010203040506 &^ many, 0xfedcba987654,
	1 << 48, 15 << 48, 1<<48 + 1, 8<<48 + 0x0b, 10<<48 + 0x0a0b0c0d0e0f, 15<<48 + 0xfeffffffffff, 7<<48 + 1<<47,
}

// none are numbers that are no bridges' names.
var none = append([]int{0, many, many + 1, mac, 1<<48 + many, 15<<48 + many, 15<<48 + mac, 8<<48 + 0x0180c2000000}, far...)

// number answers the lowest bytes of n, the highest of them first.
func number(size, n int) string {
	var b []byte
	for i := size - 1; i >= 0; i-- {
		b = append(b, byte(n>>(8*i)))
	}
	return string(b)
}

// told is the bytes of a message as the chapter tells of them.
func told(b api.Bpdu) string {
	change := 0
	if b.Change {
		change = 1
	}
	v := b.Vector
	return "\x00\x00\x02\x02" + number(1, b.Role*4+change) +
		number(2, v.Root/(1<<48)*4096) + number(6, v.Root%(1<<48)) +
		number(4, v.Cost) +
		number(2, v.Bridge/(1<<48)*4096) + number(6, v.Bridge%(1<<48)) +
		number(2, v.Port+1) + number(2, b.Age*256) +
		"\x0a\x00\x02\x00\x04\x00\x00"
}

// messages answers messages that can be: all kinds, put together with one another.
func messages() []api.Bpdu {
	var list []api.Bpdu
	for _, root := range names {
		for _, bridge := range names {
			for i, cost := range []int{0, 1, 255, 256, 0x01020304, 1 << 24, 1<<31 - 1} {
				for role := range 4 {
					for port := range 6 {
						v := api.Vector{Root: root, Cost: cost, Bridge: bridge, Port: port}
						list = append(list, api.Bpdu{Vector: v, Age: (i*4 + role + port) % 11, Role: role, Change: (root+bridge+i+role+port)%2 == 0})
					}
				}
			}
		}
	}
	return list
}

// can fails unless a message can be, has just the bytes that the chapter tells of, and is read from them.
func can(t *testing.T, b api.Bpdu) {
	t.Helper()
	if !Good(b) {
		t.Fatalf("%+v: it can't be", b)
	}
	s, e := Bytes(b)
	if e != api.OK || s != told(b) || len(s) != 36 {
		t.Fatalf("%+v: %d, %x, not %x", b, e, s, told(b))
	}
	if got, e := Read(s); e != api.OK || got != b {
		t.Fatalf("%+v: read %+v, %d", b, got, e)
	}
}

// cannot fails unless a message can't be, and has no bytes.
func cannot(t *testing.T, b api.Bpdu) {
	t.Helper()
	if Good(b) {
		t.Fatalf("%+v: it can be", b)
	}
	if s, e := Bytes(b); e != api.ErrArg || s != "" {
		t.Fatalf("%+v: %d, %x", b, e, s)
	}
}

// either asks for can or cannot.
func either(t *testing.T, b api.Bpdu, want bool) {
	t.Helper()
	if want {
		can(t, b)
	} else {
		cannot(t, b)
	}
}

// says fails unless bytes are those of one message.
func says(t *testing.T, s string, want api.Bpdu) {
	t.Helper()
	if b, e := Read(s); e != api.OK || b != want {
		t.Fatalf("%x: %+v, %d, not %+v", s, b, e, want)
	}
}

// silent fails unless bytes are those of no message.
func silent(t *testing.T, s string) {
	t.Helper()
	if b, e := Read(s); e != api.ErrForm || b != (api.Bpdu{}) {
		t.Fatalf("%x: %+v, %d", s, b, e)
	}
}

func TestExample(t *testing.T) {
	if id := Id(1, 2); id != 281474976710658 {
		t.Errorf("Id(1, 2): %d", id)
	}
}

func TestId(t *testing.T) {
	for rank := -20; rank <= 40; rank++ {
		for _, a := range []int{0, 1, 2, 0xff, 1 << 32, 1<<40 - 1, many, many + 1, 1 << 41, 1 << 47, 0xfeffffffffff, mac, mac + 1, -1} {
			want := 0
			if 0 <= rank && rank <= 15 && 0 <= a && a <= mac && a/many%2 == 0 {
				want = rank*(1<<48) + a
			}
			if id := Id(rank, a); id != want {
				t.Errorf("Id(%d, %#x): %#x, not %#x", rank, a, id, want)
			}
		}
	}
}

func TestIdByFirstByte(t *testing.T) {
	for first := range 256 {
		for _, rest := range []int{0, 1, 1<<40 - 1} {
			a := first<<40 | rest
			want := 3<<48 | a
			if first%2 == 1 {
				want = 0
			}
			if id := Id(3, a); id != want {
				t.Errorf("Id(3, %#x): %#x", a, id)
			}
		}
	}
}

func TestIdOfFarNumbers(t *testing.T) {
	for _, n := range far {
		for near := range 17 {
			if Id(n, near) != 0 || Id(near, n) != 0 || Id(n, n) != 0 {
				t.Errorf("%#x, %d: %#x, %#x, %#x", n, near, Id(n, near), Id(near, n), Id(n, n))
			}
		}
	}
}

func TestBridge(t *testing.T) {
	for _, id := range names {
		if !Bridge(id) {
			t.Errorf("%#x is no name", id)
		}
	}
	for _, id := range none {
		if Bridge(id) {
			t.Errorf("%#x is a name", id)
		}
	}
}

func TestBridgeByBits(t *testing.T) {
	for bit := range 64 {
		if Bridge(1<<bit) != (bit < 52 && bit != 40) {
			t.Errorf("1<<%d: %v", bit, Bridge(1<<bit))
		}
		if Bridge(-1<<bit) || Bridge(-1<<bit+1) {
			t.Errorf("-1<<%d, or one more, is a name", bit)
		}
		for _, id := range []int{6, 15<<48 + 5, 8<<48 + 0xfe0000000000 + 3} {
			if other := id ^ 1<<bit; Bridge(other) != (bit < 52 && bit != 40) {
				t.Errorf("%#x: %v", other, Bridge(other))
			}
		}
	}
}

func TestEachIdIsABridge(t *testing.T) {
	for rank := -1; rank <= 16; rank++ {
		for bit := range 50 {
			for _, a := range []int{1 << bit, 1<<bit - 1, mac ^ many ^ 1<<bit} {
				id := Id(rank, a)
				if Bridge(id) != (id != 0) || id != 0 && (id>>48 != rank || id&mac != a) {
					t.Fatalf("Id(%d, %#x): %#x, %v", rank, a, id, Bridge(id))
				}
			}
		}
	}
}

func TestBytesByHand(t *testing.T) {
	for s, b := range map[string]api.Bpdu{
		"\x00\x00\x02\x02\x08\x00\x00\x00\x00\x00\x00\x00\x02\x00\x00\x00\x04\x00\x00\x00\x00\x00\x00\x00\x03\x00\x01\x00\x00\x0a\x00\x02\x00\x04\x00\x00": plain,
		"\x00\x00\x02\x02\x00\x10\x00\x00\x00\x00\x00\x00\x00\x00\x00\x00\x00\xf0\x00\x00\x00\x00\x00\x00\x00\x00\x01\x00\x00\x0a\x00\x02\x00\x04\x00\x00": {Vector: api.Vector{Root: 1 << 48, Bridge: 15 << 48}},
		"\x00\x00\x02\x02\x0d\xa0\x00\x0a\x0b\x0c\x0d\x0e\x0f\x7f\xff\xff\xff\x00\x00\xfe\xff\xff\xff\xff\xff\x00\x06\x0a\x00\x0a\x00\x02\x00\x04\x00\x00": {
			Vector: api.Vector{Root: 10<<48 + 0x0a0b0c0d0e0f, Cost: 1<<31 - 1, Bridge: 0xfeffffffffff, Port: 5}, Age: 10, Role: api.RoleAlternate, Change: true,
		},
		"\x00\x00\x02\x02\x05\x80\x00\x00\x00\x00\x00\x00\x0b\x01\x02\x03\x04\x80\x00\x00\x00\x00\x00\x00\x0b\x00\x03\x07\x00\x0a\x00\x02\x00\x04\x00\x00": {
			Vector: api.Vector{Root: 8<<48 + 0x0b, Cost: 0x01020304, Bridge: 8<<48 + 0x0b, Port: 2}, Age: 7, Role: api.RoleRoot, Change: true,
		},
	} {
		if got, e := Bytes(b); e != api.OK || got != s {
			t.Errorf("%+v: %x, %d", b, got, e)
		}
		says(t, s, b)
	}
}

func TestWhatHasBytesIsReadFromThem(t *testing.T) {
	seen := map[string]bool{}
	for _, b := range messages() {
		can(t, b)
		seen[told(b)] = true
	}
	if len(seen) != len(messages()) {
		t.Errorf("%d messages have %d texts", len(messages()), len(seen))
	}
}

func TestNames(t *testing.T) {
	for _, id := range names {
		can(t, with(func(b *api.Bpdu) { b.Vector.Root = id }))
		can(t, with(func(b *api.Bpdu) { b.Vector.Bridge = id }))
	}
	for _, id := range none {
		cannot(t, with(func(b *api.Bpdu) { b.Vector.Root = id }))
		cannot(t, with(func(b *api.Bpdu) { b.Vector.Bridge = id }))
	}
}

// TestBetterThanItsRoot: a message can be, whether or not its names make sense beside one another.
func TestBetterThanItsRoot(t *testing.T) {
	can(t, with(func(b *api.Bpdu) { b.Vector.Root, b.Vector.Bridge = 9, 2 }))
	can(t, with(func(b *api.Bpdu) { b.Vector.Root, b.Vector.Bridge, b.Vector.Cost = 9, 9, 7 }))
}

func TestCost(t *testing.T) {
	for bit := range 64 {
		for near := -1; near <= 1; near++ {
			c := 1<<bit + near
			either(t, with(func(b *api.Bpdu) { b.Vector.Cost = c }), 0 <= c && c <= 2147483647)
		}
	}
	for _, c := range append([]int{1<<32 + 5, 1 << 48, 1<<32 - 1, 1<<31 + 4}, far...) {
		cannot(t, with(func(b *api.Bpdu) { b.Vector.Cost = c }))
	}
}

func TestPort(t *testing.T) {
	for port := -300; port <= 70000; port++ {
		either(t, with(func(b *api.Bpdu) { b.Vector.Port = port }), 0 <= port && port <= 5)
	}
	for _, port := range far {
		cannot(t, with(func(b *api.Bpdu) { b.Vector.Port = port }))
	}
}

func TestAge(t *testing.T) {
	for age := -300; age <= 70000; age++ {
		either(t, with(func(b *api.Bpdu) { b.Age = age }), 0 <= age && age <= 10)
	}
	for _, age := range far {
		cannot(t, with(func(b *api.Bpdu) { b.Age = age }))
	}
}

func TestRoleAndChange(t *testing.T) {
	for role := -300; role <= 300; role++ {
		for _, change := range []bool{false, true} {
			either(t, with(func(b *api.Bpdu) { b.Role, b.Change = role, change }), 0 <= role && role <= 3)
		}
	}
	for _, role := range far {
		cannot(t, with(func(b *api.Bpdu) { b.Role = role }))
	}
}

func TestSeveralFaultsAreOneError(t *testing.T) {
	cannot(t, api.Bpdu{})
	cannot(t, api.Bpdu{Vector: api.Vector{Root: -1, Cost: -1, Bridge: 16 << 48, Port: 6}, Age: 11, Role: 4, Change: true})
	cannot(t, api.Bpdu{Vector: api.Vector{Root: many, Cost: 1 << 31, Bridge: many, Port: -1}, Age: -1, Role: -1})
}

// place answers the bytes of plain, and others in the place of those at one place of them.
func place(at int, bytes string) string {
	s := told(plain)
	return s[:at] + bytes + s[at+len(bytes):]
}

// TestReadOfEachFlag puts all bytes where role and change stand.
func TestReadOfEachFlag(t *testing.T) {
	for n := range 256 {
		s := place(4, number(1, n))
		if n >= 16 || n%4 >= 2 {
			silent(t, s)
			continue
		}
		says(t, s, with(func(b *api.Bpdu) { b.Role, b.Change = n/4, n%2 == 1 }))
	}
}

// TestReadOfEachRank puts all two bytes where a rank stands.
func TestReadOfEachRank(t *testing.T) {
	for n := range 1 << 16 {
		root, bridge := place(5, number(2, n)), place(17, number(2, n))
		if n%4096 != 0 {
			silent(t, root)
			silent(t, bridge)
			continue
		}
		says(t, root, with(func(b *api.Bpdu) { b.Vector.Root = n/4096<<48 + 2 }))
		says(t, bridge, with(func(b *api.Bpdu) { b.Vector.Bridge = n/4096<<48 + 3 }))
	}
}

func TestReadOfAddresses(t *testing.T) {
	for first := range 256 {
		a := first<<40 + 0x0a0b0c0d0e
		root, bridge := place(7, number(6, a)), place(19, number(6, a))
		if first%2 == 1 {
			silent(t, root)
			silent(t, bridge)
			continue
		}
		says(t, root, with(func(b *api.Bpdu) { b.Vector.Root = a }))
		says(t, bridge, with(func(b *api.Bpdu) { b.Vector.Bridge = a }))
	}
	// A name of the rank 0 and the address 0 is none; of another rank it is.
	silent(t, place(5, number(8, 0)))
	silent(t, place(17, number(8, 0)))
	says(t, place(5, "\x10"+number(7, 0)), with(func(b *api.Bpdu) { b.Vector.Root = 1 << 48 }))
	says(t, place(17, "\x10"+number(7, 0)), with(func(b *api.Bpdu) { b.Vector.Bridge = 1 << 48 }))
	silent(t, place(5, "\x80\x00\x01\x80\xc2\x00\x00\x00"))
	silent(t, place(17, "\x80\x00\xff\xff\xff\xff\xff\xff"))
}

func TestReadOfCosts(t *testing.T) {
	for _, c := range []int{0, 1, 255, 1 << 24, 1<<31 - 2, 1<<31 - 1} {
		says(t, place(13, number(4, c)), with(func(b *api.Bpdu) { b.Vector.Cost = c }))
	}
	for _, c := range []int{1 << 31, 1<<31 + 1, 1<<31 + 1<<30, 1<<32 - 2, 1<<32 - 1} {
		silent(t, place(13, number(4, c)))
	}
}

// TestReadOfEachPortAndAge puts all two bytes where a port, and where an age stands.
func TestReadOfEachPortAndAge(t *testing.T) {
	for n := range 1 << 16 {
		port, age := place(25, number(2, n)), place(27, number(2, n))
		if 1 <= n && n <= 6 {
			says(t, port, with(func(b *api.Bpdu) { b.Vector.Port = n - 1 }))
		} else {
			silent(t, port)
		}
		if n%256 == 0 && n/256 <= 10 {
			says(t, age, with(func(b *api.Bpdu) { b.Age = n / 256 }))
		} else {
			silent(t, age)
		}
	}
}

// TestReadOfWhatIsAlwaysTheSame puts all other bytes where they hang on no message.
func TestReadOfWhatIsAlwaysTheSame(t *testing.T) {
	for _, at := range []int{0, 1, 2, 3, 29, 30, 31, 32, 33, 34, 35} {
		for n := range 256 {
			if n != int(told(plain)[at]) {
				silent(t, place(at, number(1, n)))
			}
		}
	}
}

func TestReadOfTooFewBytes(t *testing.T) {
	s := told(plain)
	for n := range len(s) {
		silent(t, s[:n])
		silent(t, s[n+1:])
		silent(t, s[:n]+s[n+1:])
	}
}

func TestReadOfTooManyBytes(t *testing.T) {
	s := told(plain)
	for at := range len(s) + 1 {
		silent(t, s[:at]+"\x07"+s[at:])
	}
	for _, more := range []string{"\x00", "\xff", "\x00\x00", s, strings.Repeat("\x00", 24), strings.Repeat("x", 1<<16)} {
		silent(t, s+more)
		silent(t, more+s)
	}
}

func TestReadOfOtherTexts(t *testing.T) {
	for _, s := range []string{"", "\x00", "hello", strings.Repeat("\x00", 36), strings.Repeat("\xff", 36), "\x00\x00\x02\x02" + strings.Repeat("\x00", 32), strings.Repeat("日", 12)} {
		silent(t, s)
	}
}

// TestReadOfBytesTurned turns bytes of messages: what is read of them is the one message whose bytes they are.
func TestReadOfBytesTurned(t *testing.T) {
	r := rand.New(rand.NewSource(8))
	list := messages()
	for range 200000 {
		s := []byte(told(list[r.Intn(len(list))]))
		for range 1 + r.Intn(3) {
			s[r.Intn(len(s))] ^= byte(1 << r.Intn(8))
		}
		b, e := Read(string(s))
		if e == api.OK && (!Good(b) || told(b) != string(s)) {
			t.Fatalf("%x: %+v", s, b)
		}
		if e != api.OK {
			silent(t, string(s))
		}
		if want, ok := heard(string(s)); ok != (e == api.OK) || b != want {
			t.Fatalf("%x: %+v, %d, not %+v, %v", s, b, e, want, ok)
		}
	}
}

// heard is the message of 36 bytes, byte by byte as the chapter tells of them; false of none.
func heard(s string) (api.Bpdu, bool) {
	at := func(from, size int) int {
		n := 0
		for _, b := range []byte(s[from : from+size]) {
			n = n*256 + int(b)
		}
		return n
	}
	name := func(from int) (int, bool) {
		rank, a := at(from, 2), at(from+2, 6)
		return rank/4096<<48 + a, rank%4096 == 0 && a/many%2 == 0 && rank+a > 0
	}
	root, rootIs := name(5)
	bridge, bridgeIs := name(17)
	ok := rootIs && bridgeIs && s[:4] == "\x00\x00\x02\x02" && s[29:] == "\x0a\x00\x02\x00\x04\x00\x00" &&
		at(4, 1) < 16 && at(4, 1)&2 == 0 && at(13, 1) < 128 && at(25, 1) == 0 && 1 <= at(26, 1) && at(26, 1) <= 6 && at(27, 1) <= 10 && at(28, 1) == 0
	if !ok {
		return api.Bpdu{}, false
	}
	v := api.Vector{Root: root, Cost: at(13, 4), Bridge: bridge, Port: at(26, 1) - 1}
	return api.Bpdu{Vector: v, Age: at(27, 1), Role: at(4, 1) / 4, Change: at(4, 1)%2 == 1}, true
}
