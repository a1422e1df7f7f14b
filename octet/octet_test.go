package octet

import (
	"math"
	"strings"
	"testing"

	"kissgate/api"
)

// put answers the text of a Writer with one number.
func put(size, n int) string {
	w := &Writer{}
	w.Put(size, n)
	return w.Text()
}

func TestPut(t *testing.T) {
	for _, c := range []struct {
		size, n int
		want    string
	}{
		{2, 258, "\x01\x02"},
		{1, 0, "\x00"},
		{1, 127, "\x7f"},
		{1, 128, "\x80"},
		{1, 255, "\xff"},
		{3, 1, "\x00\x00\x01"},
		{4, 0x01020304, "\x01\x02\x03\x04"},
		{5, 0x0102030405, "\x01\x02\x03\x04\x05"},
		{6, 0x0180c2000010, "\x01\x80\xc2\x00\x00\x10"},
		{7, 0x01020304050607, "\x01\x02\x03\x04\x05\x06\x07"},
		{8, 0x0102030405060708, "\x01\x02\x03\x04\x05\x06\x07\x08"},
		{8, math.MaxInt, "\x7f\xff\xff\xff\xff\xff\xff\xff"},
	} {
		if got := put(c.size, c.n); got != c.want {
			t.Errorf("Put(%d, %#x): %x, not %x", c.size, c.n, got, c.want)
		}
	}
}

func TestPutLowestBytes(t *testing.T) {
	for _, c := range []struct {
		size, n int
		want    string
	}{
		{1, 256, "\x00"},
		{1, 0x1ff, "\xff"},
		{2, 0x010203, "\x02\x03"},
		{4, 0x0102030405, "\x02\x03\x04\x05"},
		{7, 0x0102030405060708, "\x02\x03\x04\x05\x06\x07\x08"},
		{7, math.MaxInt, "\xff\xff\xff\xff\xff\xff\xff"},
		{1, -1, "\xff"},
		{1, -256, "\x00"},
		{2, -2, "\xff\xfe"},
		{3, -0x010203, "\xfe\xfd\xfd"},
		{7, -1, "\xff\xff\xff\xff\xff\xff\xff"},
		{8, -1, "\xff\xff\xff\xff\xff\xff\xff\xff"},
		{8, math.MinInt, "\x80\x00\x00\x00\x00\x00\x00\x00"},
		{7, math.MinInt, "\x00\x00\x00\x00\x00\x00\x00"},
	} {
		if got := put(c.size, c.n); got != c.want {
			t.Errorf("Put(%d, %#x): %x, not %x", c.size, c.n, got, c.want)
		}
	}
}

func TestPutNearestSize(t *testing.T) {
	for _, size := range []int{math.MinInt, -8, -1, 0} {
		if got := put(size, 0x0102); got != "\x02" {
			t.Errorf("Put(%d, ..): %x", size, got)
		}
	}
	for _, size := range []int{9, 10, 64, math.MaxInt} {
		if got := put(size, 0x0102); got != "\x00\x00\x00\x00\x00\x00\x01\x02" {
			t.Errorf("Put(%d, ..): %x", size, got)
		}
	}
}

func TestWriterInEveryOrder(t *testing.T) {
	w := &Writer{}
	if w.Text() != "" {
		t.Errorf("an empty one: %q", w.Text())
	}
	w.Raw("")
	if w.Text() != "" {
		t.Errorf("an empty text: %q", w.Text())
	}
	w.Raw("a\x00\xff")
	w.Put(2, 258)
	early := w.Text()
	w.Raw("")
	w.Put(1, 3)
	w.Raw("é")
	if early != "a\x00\xff\x01\x02" {
		t.Errorf("a text that was answered: %q", early)
	}
	for range 2 {
		if got := w.Text(); got != "a\x00\xff\x01\x02\x03\xc3\xa9" {
			t.Errorf("all that was put: %q", got)
		}
	}
}

func TestWritersKnowNothingOfOneAnother(t *testing.T) {
	var a, b Writer
	a.Put(1, 1)
	b.Raw("b")
	a.Put(1, 2)
	if a.Text() != "\x01\x02" || b.Text() != "b" {
		t.Errorf("%q, %q", a.Text(), b.Text())
	}
}

func TestWriterOfMuch(t *testing.T) {
	w := &Writer{}
	var want strings.Builder
	for i := range 1000 {
		w.Put(2, i)
		w.Raw("--")
		want.WriteString(string([]byte{byte(i / 256), byte(i % 256), '-', '-'}))
	}
	if w.Text() != want.String() {
		t.Error("much that was put")
	}
}

func TestNilWriter(t *testing.T) {
	var w *Writer
	w.Put(2, 258)
	w.Raw("a")
	if w.Text() != "" {
		t.Errorf("%q", w.Text())
	}
}

func TestGet(t *testing.T) {
	text := "\x81\x02\x03\x04\x05\x06\x07\x08\x09"
	for _, c := range []struct{ size, want, left int }{
		{math.MinInt, 0x81, 8},
		{-1, 0x81, 8},
		{0, 0x81, 8},
		{1, 0x81, 8},
		{2, 0x8102, 7},
		{3, 0x810203, 6},
		{4, 0x81020304, 5},
		{5, 0x8102030405, 4},
		{6, 0x810203040506, 3},
		{7, 0x81020304050607, 2},
		{8, 0x81020304050607, 2},
		{9, 0x81020304050607, 2},
		{math.MaxInt, 0x81020304050607, 2},
	} {
		r := Open(text)
		if got := r.Get(c.size); got != c.want || r.Left() != c.left || r.Fault() != -1 {
			t.Errorf("Get(%d): %#x, left %d, fault %d", c.size, got, r.Left(), r.Fault())
		}
	}
}

func TestGetIsNotBelowNought(t *testing.T) {
	for size := 1; size <= 9; size++ {
		bytes := min(size, 7)
		want := 1<<(8*bytes) - 1
		if got := Open(strings.Repeat("\xff", 9)).Get(size); got != want {
			t.Errorf("Get(%d): %#x, not %#x", size, got, want)
		}
	}
}

func TestGetJustWhatIsLeft(t *testing.T) {
	for size := 1; size <= 7; size++ {
		r := Open(strings.Repeat("\x01", size))
		if r.Get(size) == 0 || r.Left() != 0 || r.Fault() != -1 || r.End() != api.OK {
			t.Errorf("Get(%d) of just as many: left %d, fault %d", size, r.Left(), r.Fault())
		}
		r = Open(strings.Repeat("\x01", size-1))
		if got := r.Get(size); got != 0 || r.Left() != 0 || r.Fault() != 0 || r.End() != api.ErrForm {
			t.Errorf("Get(%d) of one less: %d, left %d, fault %d", size, got, r.Left(), r.Fault())
		}
	}
	for _, size := range []int{-1, 0} {
		r := Open("")
		if r.Get(size) != 0 || r.Fault() != 0 {
			t.Errorf("Get(%d) of nothing asks for a byte: fault %d", size, r.Fault())
		}
	}
	r := Open("123456")
	if r.Get(8) != 0 || r.Fault() != 0 {
		t.Errorf("Get(8) asks for seven bytes: fault %d", r.Fault())
	}
}

func TestRaw(t *testing.T) {
	for _, c := range []struct {
		n     int
		want  string
		fault int
	}{
		{0, "", -1},
		{1, "b", -1},
		{2, "b\xff", -1},
		{3, "b\xff\x00", -1},
		{4, "", 1},
		{5, "", 1},
		{math.MaxInt, "", 1},
		{-1, "", 1},
		{math.MinInt, "", 1},
	} {
		r := Open("ab\xff\x00")
		r.Raw(1)
		left := 3 - len(c.want)
		if c.fault >= 0 {
			left = 0
		}
		if got := r.Raw(c.n); got != c.want || r.Fault() != c.fault || r.Left() != left {
			t.Errorf("Raw(%d): %q, fault %d, left %d", c.n, got, r.Fault(), r.Left())
		}
	}
}

func TestNothingIsReadBehindAFault(t *testing.T) {
	faults := map[string]func(r *Reader){
		"Get":          func(r *Reader) { r.Get(4) },
		"Raw":          func(r *Reader) { r.Raw(4) },
		"Raw, below 0": func(r *Reader) { r.Raw(-1) },
		"Fail":         func(r *Reader) { r.Fail() },
	}
	for name, fault := range faults {
		r := Open("abcde")
		r.Get(2)
		fault(r)
		for range 2 {
			if r.Get(1) != 0 || r.Get(0) != 0 || r.Raw(1) != "" || r.Raw(0) != "" || r.Raw(-1) != "" || r.Left() != 0 {
				t.Errorf("%s: something is read behind it", name)
			}
			r.Fail()
			if r.Fault() != 2 || r.End() != api.ErrForm {
				t.Errorf("%s: fault %d, end %d", name, r.Fault(), r.End())
			}
		}
	}
}

func TestFail(t *testing.T) {
	for at := 0; at <= 3; at++ {
		r := Open("abc")
		r.Raw(at)
		if r.Fault() != -1 {
			t.Errorf("ahead of Fail: %d", r.Fault())
		}
		r.Fail()
		r.Fail()
		if r.Fault() != at || r.Left() != 0 || r.End() != api.ErrForm {
			t.Errorf("Fail at %d: %d, left %d, end %d", at, r.Fault(), r.Left(), r.End())
		}
	}
}

func TestReaderAtItsEnd(t *testing.T) {
	for _, text := range []string{"", "a", "abc"} {
		r := Open(text)
		r.Raw(len(text))
		if r.Raw(0) != "" || r.Left() != 0 || r.Fault() != -1 || r.End() != api.OK {
			t.Errorf("%q: left %d, fault %d, end %d", text, r.Left(), r.Fault(), r.End())
		}
		if r.Get(1) != 0 || r.Fault() != len(text) || r.End() != api.ErrForm {
			t.Errorf("%q, beyond: fault %d, end %d", text, r.Fault(), r.End())
		}
	}
}

func TestEnd(t *testing.T) {
	r := Open("abc")
	for i := range 3 {
		if r.End() != api.ErrForm || r.End() != api.ErrForm {
			t.Errorf("with %d bytes left", 3-i)
		}
		r.Get(1)
	}
	if r.End() != api.OK || r.End() != api.OK {
		t.Error("with nothing left")
	}
}

func TestNilReader(t *testing.T) {
	var r *Reader
	r.Fail()
	if r.Get(1) != 0 || r.Get(-1) != 0 || r.Raw(0) != "" || r.Raw(1) != "" || r.Raw(-1) != "" {
		t.Error("it reads")
	}
	if r.Left() != 0 || r.Fault() != -1 || r.End() != api.ErrNil {
		t.Errorf("left %d, fault %d, end %d", r.Left(), r.Fault(), r.End())
	}
}

func TestReadersKnowNothingOfOneAnother(t *testing.T) {
	a, b := Open("abc"), Open("abc")
	a.Raw(2)
	a.Fail()
	if b.Left() != 3 || b.Fault() != -1 || b.Raw(3) != "abc" || b.End() != api.OK {
		t.Errorf("left %d, fault %d", b.Left(), b.Fault())
	}
}

// plain is a reader as the chapter tells of it: what lies ahead, and where the fault is.
type plain struct {
	rest  []byte
	at    int
	fault int
}

func (p *plain) raw(n int) string {
	if p.fault < 0 && (n < 0 || n > len(p.rest)) {
		p.fault = p.at
	}
	if p.fault >= 0 {
		return ""
	}
	s := string(p.rest[:n])
	p.rest, p.at = p.rest[n:], p.at+n
	return s
}

func (p *plain) get(size int) int {
	n := 0
	for _, b := range []byte(p.raw(max(1, min(size, 7)))) {
		n = 256*n + int(b)
	}
	return n
}

func (p *plain) fail() {
	if p.fault < 0 {
		p.fault = p.at
	}
}

func (p *plain) left() int {
	if p.fault >= 0 {
		return 0
	}
	return len(p.rest)
}

func (p *plain) end() api.Errno {
	if p.fault >= 0 || len(p.rest) > 0 {
		return api.ErrForm
	}
	return api.OK
}

// moves are what may be done to a reader; each tells whether both did the same.
func moves() []func(r *Reader, p *plain) bool {
	list := []func(r *Reader, p *plain) bool{
		func(r *Reader, p *plain) bool { r.Fail(); p.fail(); return true },
	}
	for _, size := range []int{0, 1, 2, 7, 8} {
		list = append(list, func(r *Reader, p *plain) bool { return r.Get(size) == p.get(size) })
	}
	for _, n := range []int{-1, 0, 1, 3} {
		list = append(list, func(r *Reader, p *plain) bool { return r.Raw(n) == p.raw(n) })
	}
	return list
}

func TestReaderInEveryOrder(t *testing.T) {
	const calls = 4
	list := moves()
	orders := 1
	for range calls {
		orders *= len(list)
	}
	for _, text := range []string{"", "\x00", "\xff\x01", "ab\x80cdefg\x00", "0123456789abcdef0123456789abcdef"} {
		for order := range orders {
			r, p := Open(text), &plain{rest: []byte(text), fault: -1}
			for rest := range calls {
				move := order
				for range rest {
					move /= len(list)
				}
				same := list[move%len(list)](r, p)
				if !same || r.Left() != p.left() || r.Fault() != p.fault || r.End() != p.end() {
					t.Fatalf("%q, order %d, call %d: left %d, fault %d, end %d", text, order, rest, r.Left(), r.Fault(), r.End())
				}
			}
		}
	}
}

// numbers: small ones, all powers of two, and what lies beside them, on both sides of 0.
func numbers() []int {
	var list []int
	for bit := range 63 {
		for near := -2; near <= 2; near++ {
			list = append(list, 1<<bit+near, -(1<<bit + near))
		}
	}
	return append(list, 0, 0x0102030405060708, -0x0102030405060708, math.MaxInt, math.MinInt)
}

func TestWhatIsPutIsReadAgain(t *testing.T) {
	for size := -1; size <= 7; size++ {
		bytes := max(size, 1)
		for _, n := range numbers() {
			r := Open(put(size, n))
			want := n & (1<<(8*bytes) - 1)
			if got := r.Get(size); got != want || r.Left() != 0 || r.Fault() != -1 || r.End() != api.OK {
				t.Fatalf("size %d, %#x: %#x, left %d, end %d", size, n, got, r.Left(), r.End())
			}
		}
	}
}

func TestEightBytesAreReadAgainInTwo(t *testing.T) {
	for _, n := range numbers() {
		r := Open(put(8, n))
		high := r.Get(1)
		low := r.Get(7)
		if high<<56|low != n || r.Left() != 0 || r.End() != api.OK {
			t.Fatalf("%#x: %#x, %#x, end %d", n, high, low, r.End())
		}
	}
}

func TestAllThatIsPutIsReadAgain(t *testing.T) {
	texts := []string{"", "a", "\x00\xff", "a longer text"}
	w := &Writer{}
	for i, n := range numbers() {
		w.Put(1+i%7, n)
		w.Raw(texts[i%len(texts)])
	}
	r := Open(w.Text())
	for i, n := range numbers() {
		size, text := 1+i%7, texts[i%len(texts)]
		if got := r.Get(size); got != n&(1<<(8*size)-1) {
			t.Fatalf("number %d: %#x", i, got)
		}
		if got := r.Raw(len(text)); got != text {
			t.Fatalf("text %d: %q", i, got)
		}
	}
	if r.Left() != 0 || r.Fault() != -1 || r.End() != api.OK {
		t.Errorf("left %d, fault %d, end %d", r.Left(), r.Fault(), r.End())
	}
}
