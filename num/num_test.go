package num

import (
	"bytes"
	"math"
	"strings"
	"testing"
)

const (
	least    = math.MinInt
	greatest = math.MaxInt
)

// wire is the encoding as P1.1 words it, by division instead of shifts.
func wire(u uint64) string {
	var out []byte
	for ; u >= 128; u /= 128 {
		out = append(out, byte(u%128)+128)
	}
	return string(append(out, byte(u)))
}

// numbers has the edges: 0, both signs around each power of two, the least and the greatest number.
func numbers() []int {
	l := []int{0, least, least + 1, greatest, greatest - 1}
	for i := range 63 {
		p := 1 << i
		l = append(l, p-1, p, p+1, -p+1, -p, -p-1)
	}
	x := uint64(1)
	for range 500 {
		x = x*6364136223846793005 + 1442695040888963407
		l = append(l, int(x), int(x>>17), -int(x>>40))
	}
	return l
}

func texts() []string {
	return []string{
		"", "a", "abc", "\x00", "\x80", "\xff\xfe", "é λ", "\x02a",
		strings.Repeat("x", 63), strings.Repeat("y", 64), strings.Repeat("z", 8191), strings.Repeat("\xff", 8192),
	}
}

// wantBad fails unless r is bad and answers as a bad reader does, however often it is asked.
func wantBad(t *testing.T, what string, r *Reader) {
	t.Helper()
	for range 3 {
		if !r.Bad() {
			t.Errorf("%s: the reader is not bad", what)
		}
		if n := r.Left(); n != 0 {
			t.Errorf("%s: Left of a bad reader is %d", what, n)
		}
		if x := r.Num(); x != 0 {
			t.Errorf("%s: Num of a bad reader is %d", what, x)
		}
		if s := r.Text(); s != "" {
			t.Errorf("%s: Text of a bad reader is %q", what, s)
		}
	}
}

// wantNoNum fails unless Num finds no number in b, whatever follows it.
func wantNoNum(t *testing.T, what, b string) {
	t.Helper()
	r := NewReader([]byte(b))
	if x := r.Num(); x != 0 {
		t.Errorf("%s: Num of %x is %d, want 0", what, b, x)
	}
	wantBad(t, what, r)
}

// wantNoText fails unless Text finds no text in b.
func wantNoText(t *testing.T, what, b string) {
	t.Helper()
	r := NewReader([]byte(b))
	if s := r.Text(); s != "" {
		t.Errorf("%s: Text of %x is %q, want none", what, b, s)
	}
	wantBad(t, what, r)
}

// P1.1

func TestPutExamples(t *testing.T) {
	for _, c := range []struct {
		x    int
		want string
	}{
		{0, "\x00"}, {-1, "\x01"}, {1, "\x02"}, {-2, "\x03"},
		{63, "\x7e"}, {-64, "\x7f"}, {64, "\x80\x01"}, {-65, "\x81\x01"},
		{300, "\xd8\x04"},
		{8191, "\xfe\x7f"}, {-8192, "\xff\x7f"}, {8192, "\x80\x80\x01"}, {-8193, "\x81\x80\x01"},
		{1<<62 - 1, "\xfe\xff\xff\xff\xff\xff\xff\xff\x7f"},
		{1 << 62, "\x80\x80\x80\x80\x80\x80\x80\x80\x80\x01"},
		{greatest, "\xfe\xff\xff\xff\xff\xff\xff\xff\xff\x01"},
		{least, "\xff\xff\xff\xff\xff\xff\xff\xff\xff\x01"},
	} {
		if got := Put(nil, c.x); string(got) != c.want {
			t.Errorf("Put(nil, %d) = %x, want %x", c.x, got, c.want)
		}
		if got := Put([]byte("\x80b"), c.x); string(got) != "\x80b"+c.want {
			t.Errorf("Put behind bytes of %d = %x", c.x, got)
		}
	}
}

func TestPutFollowsTheRule(t *testing.T) {
	for _, x := range numbers() {
		u := 2 * uint64(x)
		if x < 0 {
			u = -u - 1
		}
		if got, want := string(Put([]byte{}, x)), wire(u); got != want {
			t.Errorf("Put of %d = %x, want %x", x, got, want)
		}
	}
}

func TestPutText(t *testing.T) {
	for _, c := range []struct{ s, want string }{
		{"", "\x00"}, {"a", "\x02a"}, {"abc", "\x06abc"}, {"é", "\x04\xc3\xa9"}, {"\x00\xff", "\x04\x00\xff"},
		{strings.Repeat("x", 63), "\x7e" + strings.Repeat("x", 63)},
		{strings.Repeat("x", 64), "\x80\x01" + strings.Repeat("x", 64)},
		{strings.Repeat("x", 8192), "\x80\x80\x01" + strings.Repeat("x", 8192)},
	} {
		if got := PutText(nil, c.s); string(got) != c.want {
			t.Errorf("PutText(nil, %q) = %x, want %x", c.s, got, c.want)
		}
		if got := PutText([]byte("b\x00"), c.s); string(got) != "b\x00"+c.want {
			t.Errorf("PutText behind bytes of %q = %x", c.s, got)
		}
	}
}

// R7: neither the bytes nor the spare capacity of b change, and the result shares no memory with b.
func TestPutLeavesItsArgument(t *testing.T) {
	puts := map[string]func(b []byte) []byte{
		"Put":           func(b []byte) []byte { return Put(b, least) },
		"PutText":       func(b []byte) []byte { return PutText(b, "abc") },
		"empty PutText": func(b []byte) []byte { return PutText(b, "") },
	}
	for what, put := range puts {
		whole := bytes.Repeat([]byte{7}, 64)
		first := put(whole[:4])
		if !bytes.Equal(whole, bytes.Repeat([]byte{7}, 64)) {
			t.Errorf("%s changed its argument or what lies behind it: %x", what, whole)
		}
		kept := bytes.Clone(first)
		clear(whole)
		second := put(whole[:4])
		if !bytes.Equal(first, kept) {
			t.Errorf("%s answered with its argument's memory", what)
		}
		clear(second)
		if !bytes.Equal(first, kept) {
			t.Errorf("%s answered twice with the same memory", what)
		}
	}
}

// P1.2

func TestReaderInOrder(t *testing.T) {
	r := NewReader([]byte("\x80\x01\x06abc\x00\x01\x00"))
	if r.Left() != 9 || r.Bad() {
		t.Fatalf("at the beginning: Left %d, Bad %v", r.Left(), r.Bad())
	}
	if x := r.Num(); x != 64 || r.Left() != 7 {
		t.Errorf("Num %d, Left %d, want 64, 7", x, r.Left())
	}
	if s := r.Text(); s != "abc" || r.Left() != 3 {
		t.Errorf("Text %q, Left %d, want abc, 3", s, r.Left())
	}
	if s := r.Text(); s != "" || r.Left() != 2 || r.Bad() {
		t.Errorf("Text %q, Left %d, Bad %v, want none, 2, false", s, r.Left(), r.Bad())
	}
	if x := r.Num(); x != -1 || r.Left() != 1 {
		t.Errorf("Num %d, Left %d, want -1, 1", x, r.Left())
	}
	if x := r.Num(); x != 0 || r.Left() != 0 || r.Bad() {
		t.Errorf("Num %d, Left %d, Bad %v, want 0, 0, false", x, r.Left(), r.Bad())
	}
	if x := r.Num(); x != 0 {
		t.Errorf("Num behind the end is %d", x)
	}
	wantBad(t, "behind the end", r)
}

func TestReaderWithoutBytes(t *testing.T) {
	for _, b := range [][]byte{nil, {}} {
		if r := NewReader(b); r.Left() != 0 || r.Bad() {
			t.Errorf("no bytes: Left %d, Bad %v", r.Left(), r.Bad())
		}
		wantNoNum(t, "no bytes", string(b))
		wantNoText(t, "no bytes", string(b))
	}
}

func TestNumMissingBytes(t *testing.T) {
	for _, x := range numbers() {
		b := string(Put(nil, x))
		for n := range len(b) {
			wantNoNum(t, "missing bytes", b[:n])
		}
	}
}

func TestNumTenthByte(t *testing.T) {
	for _, nine := range []string{strings.Repeat("\x80", 9), strings.Repeat("\xff", 9)} {
		for c := range 256 {
			b := nine + string([]byte{byte(c)})
			if c == 1 {
				r := NewReader([]byte(b))
				if x := r.Num(); r.Bad() || r.Left() != 0 || string(Put(nil, x)) != b {
					t.Errorf("Num of %x is %d, Bad %v, Left %d", b, x, r.Bad(), r.Left())
				}
				continue
			}
			wantNoNum(t, "tenth byte", b)
			wantNoNum(t, "tenth byte and more", b+"\x01\x00\x02")
		}
	}
}

func TestNumLastByteZero(t *testing.T) {
	for n := 1; n <= 12; n++ {
		wantNoNum(t, "last byte 0", strings.Repeat("\x80", n)+"\x00")
		wantNoNum(t, "last byte 0", strings.Repeat("\x83", n)+"\x00\x02")
	}
	r := NewReader([]byte("\x00\x02"))
	if x := r.Num(); x != 0 || r.Bad() || r.Left() != 1 {
		t.Errorf("0 as the only byte: Num %d, Bad %v, Left %d", x, r.Bad(), r.Left())
	}
}

func TestNumTooLong(t *testing.T) {
	for n := 10; n < 30; n++ {
		wantNoNum(t, "too long", strings.Repeat("\x80", n)+"\x01")
		wantNoNum(t, "too long", strings.Repeat("\xff", n)+"\x01\x02")
	}
}

// Two bytes have few enough forms to hold each of them against the words of P1.2.
func TestNumOfAnyTwoBytes(t *testing.T) {
	for c := range 256 {
		for e := range 256 {
			b := []byte{byte(c), byte(e)}
			switch {
			case c < 128:
				r := NewReader(b)
				if x := r.Num(); r.Bad() || r.Left() != 1 || string(Put(nil, x)) != string(b[:1]) {
					t.Errorf("Num of %x is %d, Bad %v, Left %d", b, x, r.Bad(), r.Left())
				}
			case e > 0 && e < 128:
				r := NewReader(b)
				if x := r.Num(); r.Bad() || r.Left() != 0 || string(Put(nil, x)) != string(b) {
					t.Errorf("Num of %x is %d, Bad %v, Left %d", b, x, r.Bad(), r.Left())
				}
			default:
				wantNoNum(t, "two bytes", string(b))
			}
		}
	}
}

func TestTextWrongLength(t *testing.T) {
	for _, n := range []int{-1, -2, -3, -64, -65, least, least + 1} {
		wantNoText(t, "negative length", string(Put(nil, n)))
		wantNoText(t, "negative length", string(Put(nil, n))+"abc")
	}
	for _, n := range []int{4, 5, 64, 1 << 31, 1 << 32, 1<<32 + 3, 1 << 62, greatest} {
		wantNoText(t, "length over what remains", string(Put(nil, n))+"abc")
	}
	wantNoText(t, "length over nothing", "\x02")
	for _, s := range texts() {
		if b := string(PutText(nil, s)); s != "" {
			wantNoText(t, "one byte missing", b[:len(b)-1])
		}
	}
}

func TestTextWithoutLength(t *testing.T) {
	wantNoText(t, "length cut", "\x80")
	wantNoText(t, "length with a last byte 0", "\x82\x00a")
	wantNoText(t, "length with a last byte 0", "\x80\x00")
	wantNoText(t, "length too long", strings.Repeat("\x80", 10)+"\x01abc")
}

func TestTextTakesAllThatRemains(t *testing.T) {
	r := NewReader([]byte("\x06abc"))
	if s := r.Text(); s != "abc" || r.Left() != 0 || r.Bad() {
		t.Errorf("Text %q, Left %d, Bad %v", s, r.Left(), r.Bad())
	}
}

// What would be well formed behind a fault is not to be had any more.
func TestBadStaysBad(t *testing.T) {
	r := NewReader([]byte("\x02\x80\x00\x02\x06abc"))
	if x := r.Num(); x != 1 || r.Bad() {
		t.Fatalf("Num %d, Bad %v", x, r.Bad())
	}
	if x := r.Num(); x != 0 {
		t.Errorf("Num at the fault is %d", x)
	}
	wantBad(t, "number ahead of good bytes", r)
	r = NewReader([]byte("\x01\x02\x06abc"))
	if s := r.Text(); s != "" {
		t.Errorf("Text at the fault is %q", s)
	}
	wantBad(t, "text ahead of good bytes", r)
}

// R7: a reader neither changes nor keeps the bytes that it was given.
func TestReaderKeepsACopy(t *testing.T) {
	b := []byte("\x06abc\x80\x01")
	was := bytes.Clone(b)
	r := NewReader(b)
	clear(b)
	if s, x := r.Text(), r.Num(); s != "abc" || x != 64 {
		t.Errorf("after a change of the bytes: %q, %d", s, x)
	}
	copy(b, was)
	r = NewReader(b)
	r.Text()
	r.Num()
	r.Num()
	if !bytes.Equal(b, was) {
		t.Errorf("the bytes became %x", b)
	}
}

func TestReadersAreApart(t *testing.T) {
	b := []byte("\x02\x04")
	first, second := NewReader(b), NewReader(b)
	first.Num()
	first.Text()
	wantBad(t, "first", first)
	if second.Left() != 2 || second.Bad() || second.Num() != 1 || second.Num() != 2 || second.Bad() {
		t.Error("one reader moved the other")
	}
}

// P1.3

func TestNumbersComeBack(t *testing.T) {
	for _, x := range numbers() {
		r := NewReader(Put(nil, x))
		if y := r.Num(); y != x || r.Left() != 0 || r.Bad() {
			t.Errorf("%d came back as %d, Left %d, Bad %v", x, y, r.Left(), r.Bad())
		}
	}
}

func TestTextsComeBack(t *testing.T) {
	for _, s := range texts() {
		r := NewReader(PutText(nil, s))
		if y := r.Text(); y != s || r.Left() != 0 || r.Bad() {
			t.Errorf("%q came back as %q, Left %d, Bad %v", s, y, r.Left(), r.Bad())
		}
	}
}

func TestMixedRowComesBack(t *testing.T) {
	var b []byte
	for i, x := range numbers() {
		b = PutText(Put(b, x), texts()[i%8])
	}
	r := NewReader(b)
	for i, x := range numbers() {
		if y, s := r.Num(), r.Text(); y != x || s != texts()[i%8] || r.Bad() {
			t.Fatalf("item %d: %d, %q, Bad %v, want %d, %q", i, y, s, r.Bad(), x, texts()[i%8])
		}
	}
	if r.Left() != 0 {
		t.Errorf("%d bytes are left", r.Left())
	}
}

// Whatever bytes are read, what is taken from them is just what Put and PutText would have laid down there.
func FuzzReader(f *testing.F) {
	for _, s := range []string{"", "\x00", "\x80\x01\x06abc", "\x01", "\x80\x00", strings.Repeat("\xff", 9) + "\x01", strings.Repeat("\x80", 11)} {
		f.Add([]byte(s))
	}
	f.Fuzz(func(t *testing.T, b []byte) {
		r := NewReader(b)
		var again []byte
		for i := 0; r.Left() > 0; i++ {
			at := len(b) - r.Left()
			if i%2 == 0 {
				x := r.Num()
				again = Put(again, x)
			} else {
				s := r.Text()
				again = PutText(again, s)
			}
			if r.Bad() {
				wantBad(t, "fuzz", r)
				return
			}
			if end := len(b) - r.Left(); end <= at || !bytes.Equal(again, b[:end]) {
				t.Fatalf("%x was read as %x", b, again)
			}
		}
		if r.Bad() {
			t.Fatalf("%x: bad at the end", b)
		}
	})
}
