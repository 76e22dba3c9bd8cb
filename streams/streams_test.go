package streams

import (
	"math"
	"slices"
	"strconv"
	"strings"
	"testing"

	"registrar/api"
)

// added is a call of Add that was not refused; tale is all of them, in order: a table told the slow way.
type added struct {
	stream string
	pos    int
}

type tale []added

func (m tale) positions(stream string, upto int) []int {
	var l []int
	for _, a := range m {
		if a.stream == stream && a.pos <= upto {
			l = append(l, a.pos)
		}
	}
	return l
}

func (m tale) names() []string {
	var l []string
	for _, a := range m {
		at := 0
		for at < len(l) && l[at] < a.stream {
			at++
		}
		if at == len(l) || l[at] != a.stream {
			l = slices.Insert(l, at, a.stream)
		}
	}
	return l
}

func (m tale) last() int {
	if len(m) == 0 {
		return 0
	}
	return m[len(m)-1].pos
}

// edges are the numbers that a table is asked with: each position, those beside it, and the ends of all numbers.
func (m tale) edges() []int {
	l := []int{math.MinInt, -1, 0, 1, math.MaxInt}
	for _, a := range m {
		l = append(l, a.pos-1, a.pos, min(a.pos, math.MaxInt-1)+1)
	}
	return l
}

func say(l []int) string {
	s := ""
	for _, n := range l {
		s += " " + strconv.Itoa(n)
	}
	return "[" + strings.TrimSpace(s) + "]"
}

// wantTable fails unless t tells what m tells, of streams that it has none of too.
func wantTable(t *testing.T, what string, got *Table, m tale) {
	t.Helper()
	names := m.names()
	if l := got.Names(); !slices.Equal(l, names) {
		t.Fatalf("%s: Names is %q, want %q", what, l, names)
	}
	for _, stream := range append(names, "", "none", "s\x00") {
		for _, upto := range m.edges() {
			want := m.positions(stream, upto)
			if l := got.Positions(stream, upto); !slices.Equal(l, want) {
				t.Fatalf("%s: Positions of %q up to %d is %s, want %s", what, stream, upto, say(l), say(want))
			}
			if n := got.Version(stream, upto); n != len(want) {
				t.Fatalf("%s: Version of %q up to %d is %d, want %d", what, stream, upto, n, len(want))
			}
		}
	}
}

func wantAdd(t *testing.T, to *Table, stream string, pos, version int) {
	t.Helper()
	if n, code := to.Add(stream, pos); n != version || code != api.OK {
		t.Fatalf("Add of %q at %d is %d, %d, want %d", stream, pos, n, code, version)
	}
}

func wantRefused(t *testing.T, to *Table, stream string, pos int) {
	t.Helper()
	if n, code := to.Add(stream, pos); n != 0 || code != api.ErrArg {
		t.Errorf("Add of %q at %d is %d, %d, want ErrArg", stream, pos, n, code)
	}
}

// put adds to both.
func put(t *testing.T, to *Table, m tale, stream string, pos int) tale {
	t.Helper()
	m = append(slices.Clip(m), added{stream, pos})
	wantAdd(t, to, stream, pos, len(m.positions(stream, pos)))
	return m
}

// table returns one with the positions 1, 2, and so on, one for each letter, and what it tells.
func table(t *testing.T, letters string) (*Table, tale) {
	t.Helper()
	to, m := New(), tale(nil)
	for i, c := range letters {
		m = put(t, to, m, string(c), i+1)
	}
	return to, m
}

func TestNewIsEmpty(t *testing.T) {
	wantTable(t, "New", New(), nil)
}

// The chapter's example.
func TestExample(t *testing.T) {
	to := New()
	wantAdd(t, to, "s", 1, 1)
	wantAdd(t, to, "t", 2, 1)
	wantAdd(t, to, "s", 5, 2)
	if n := to.Version("s", 4); n != 1 {
		t.Errorf("Version up to 4 is %d, want 1", n)
	}
	wantTable(t, "the example", to, tale{{"s", 1}, {"t", 2}, {"s", 5}})
}

// The version is that of the position in its own stream.
func TestAddAnswersTheVersion(t *testing.T) {
	to := New()
	for i := range 300 {
		wantAdd(t, to, "each", 3*i+1, i+1)
		if i%2 == 0 {
			wantAdd(t, to, "second", 3*i+2, i/2+1)
		}
		if i%7 == 0 {
			wantAdd(t, to, "seventh", 3*i+3, i/7+1)
		}
	}
	for i, name := range []string{"each", "second", "seventh"} {
		if n, want := to.Version(name, 3*300), []int{300, 150, 43}[i]; n != want {
			t.Errorf("Version of %q is %d, want %d", name, n, want)
		}
	}
}

func TestAddOfWrongPositions(t *testing.T) {
	none := New()
	for _, pos := range []int{0, -1, -2, -1 << 40, math.MinInt} {
		wantRefused(t, none, "s", pos)
	}
	wantTable(t, "positions less than 1", none, nil)

	to, m := New(), tale(nil)
	m = put(t, to, m, "s", 4)
	m = put(t, to, m, "t", 9)
	for _, stream := range []string{"s", "t", "new", ""} {
		for _, pos := range []int{9, 8, 5, 4, 3, 1, 0, -1, -9, -10, math.MinInt} {
			wantRefused(t, to, stream, pos)
			wantTable(t, "a position not behind the last", to, m)
		}
	}
	m = put(t, to, m, "s", 10)
	wantTable(t, "a position behind the last", to, m)
}

// What was refused doesn't count as added: the next position may be any one behind the last.
func TestAddBehindRefusedOnes(t *testing.T) {
	to := New()
	wantRefused(t, to, "s", -5)
	wantAdd(t, to, "s", 1, 1)
	wantRefused(t, to, "s", 1)
	wantRefused(t, to, "t", 1)
	wantRefused(t, to, "t", -7)
	wantRefused(t, to, "t", 1)
	wantAdd(t, to, "t", 2, 1)
	wantAdd(t, to, "s", 3, 2)
	wantTable(t, "refused ones between", to, tale{{"s", 1}, {"t", 2}, {"s", 3}})
}

// The chapter names no greatest position.
func TestAddOfGreatPositions(t *testing.T) {
	to, m := New(), tale(nil)
	for _, pos := range []int{1 << 20, 1<<20 + 1, 1 << 40, math.MaxInt - 1, math.MaxInt} {
		m = put(t, to, m, "s", pos)
		wantTable(t, "a great position", to, m)
	}
	for _, pos := range []int{math.MaxInt, math.MinInt, 1} {
		wantRefused(t, to, "s", pos)
		wantRefused(t, to, "t", pos)
	}
	wantTable(t, "the greatest position", to, m)
}

// A stream is any text here: whether it is a name is asked elsewhere.
func TestStreamsAreAnyTexts(t *testing.T) {
	to, m := New(), tale(nil)
	texts := []string{"", " ", "s", "S", "s ", "s\x00", "\x00", "\xff", "\xff\xfe", "ä", "a\u0308", "日本", "a:b", "-", "7", strings.Repeat("z", 25), strings.Repeat("z", 1<<16)}
	for i, s := range append(texts, texts...) {
		m = put(t, to, m, s, i+1)
	}
	wantTable(t, "any texts", to, m)
}

func TestVersionAndPositions(t *testing.T) {
	to := New()
	for i, pos := range []int{2, 3, 7, 20, 21, 50} {
		wantAdd(t, to, []string{"s", "t"}[i%2], pos, i/2+1)
	}
	rows := []struct {
		stream string
		upto   int
		want   []int
	}{
		{"s", math.MinInt, nil}, {"s", -1, nil}, {"s", 0, nil}, {"s", 1, nil},
		{"s", 2, []int{2}}, {"s", 3, []int{2}}, {"s", 6, []int{2}},
		{"s", 7, []int{2, 7}}, {"s", 8, []int{2, 7}}, {"s", 20, []int{2, 7}},
		{"s", 21, []int{2, 7, 21}}, {"s", 50, []int{2, 7, 21}}, {"s", math.MaxInt, []int{2, 7, 21}},
		{"t", 2, nil}, {"t", 3, []int{3}}, {"t", 19, []int{3}}, {"t", 20, []int{3, 20}}, {"t", 49, []int{3, 20}},
		{"t", 50, []int{3, 20, 50}}, {"t", math.MaxInt, []int{3, 20, 50}},
		{"u", 50, nil}, {"u", math.MaxInt, nil}, {"", 50, nil}, {"S", 50, nil}, {"st", 50, nil},
	}
	for _, r := range rows {
		if l := to.Positions(r.stream, r.upto); !slices.Equal(l, r.want) {
			t.Errorf("Positions of %q up to %d is %s, want %s", r.stream, r.upto, say(l), say(r.want))
		}
		if n := to.Version(r.stream, r.upto); n != len(r.want) {
			t.Errorf("Version of %q up to %d is %d, want %d", r.stream, r.upto, n, len(r.want))
		}
	}
}

// To ask for a stream doesn't make one.
func TestAskingAddsNothing(t *testing.T) {
	to, m := table(t, "sts")
	to.Version("u", 3)
	to.Positions("v", 3)
	to.Names()
	to.Clone()
	wantTable(t, "asked", to, m)
}

func TestNamesAreInOrder(t *testing.T) {
	to, m := New(), tale(nil)
	for i, name := range []string{"m", "b", "a-b", "ab", "a", "z", "zz", "Z", "a.b", "a7", "é", "~", "m1", "m", "a"} {
		m = put(t, to, m, name, i+1)
	}
	want := []string{"Z", "a", "a-b", "a.b", "a7", "ab", "b", "m", "m1", "z", "zz", "~", "é"}
	for range 50 {
		if l := to.Names(); !slices.Equal(l, want) {
			t.Fatalf("Names is %q, want %q", l, want)
		}
	}
}

func TestManyNames(t *testing.T) {
	to := New()
	for i := range 1000 {
		wantAdd(t, to, "s"+strconv.Itoa(1000+i*7%1000), i+1, 1)
	}
	l := to.Names()
	for i := range 1000 {
		if len(l) != 1000 || l[i] != "s"+strconv.Itoa(1000+i) {
			t.Fatalf("there are %d names, and name %d is %q", len(l), i, l[i])
		}
	}
}

// At each length of a list, with and without spare capacity: both copies go on with other positions.
func TestClonesAreApart(t *testing.T) {
	for n := range 20 {
		for _, first := range []bool{true, false} {
			to, m := table(t, strings.Repeat("st", n))
			c, k := to.Clone(), m
			wantTable(t, "a clone", c, m)
			for i := range 12 {
				if (i%2 == 0) == first {
					m = put(t, to, m, "s", m.last()+2)
					m = put(t, to, m, "u", m.last()+1)
				} else {
					k = put(t, c, k, "s", k.last()+3)
					k = put(t, c, k, "v", k.last()+1)
				}
				wantTable(t, "the first", to, m)
				wantTable(t, "the clone", c, k)
			}
		}
	}
}

func TestSeveralClonesOfOne(t *testing.T) {
	for n := range 10 {
		to, m := table(t, strings.Repeat("s", n))
		copies, tales := []*Table{to}, []tale{m}
		for range 4 {
			for i := range len(copies) {
				copies, tales = append(copies, copies[i].Clone()), append(tales, tales[i])
			}
			for i, c := range copies {
				tales[i] = put(t, c, tales[i], "s", tales[i].last()+i+1)
			}
			for i, c := range copies {
				wantTable(t, "copy "+strconv.Itoa(i), c, tales[i])
			}
		}
	}
}

// A clone has the last position too, and one that was refused by the one is still free in the other.
func TestClonesHaveTheLastPosition(t *testing.T) {
	to, m := table(t, "stu")
	c := to.Clone()
	wantRefused(t, c, "s", 3)
	wantRefused(t, c, "new", 2)
	wantTable(t, "a clone", c, m)
	wantAdd(t, to, "s", 4, 2)
	wantAdd(t, c, "t", 4, 2)
	wantAdd(t, c, "t", 9, 3)
	wantRefused(t, c, "t", 5)
	wantAdd(t, to, "t", 5, 2)
}

func TestCloneOfNothing(t *testing.T) {
	to := New()
	c := to.Clone()
	wantTable(t, "the clone", c, nil)
	wantAdd(t, c, "s", 1, 1)
	wantTable(t, "the first", to, nil)
	wantTable(t, "the clone", c, tale{{"s", 1}})
	wantAdd(t, to, "t", 7, 1)
	wantTable(t, "the first", to, tale{{"t", 7}})
	wantTable(t, "the clone", c, tale{{"s", 1}})
}

// spoil writes over a list, its spare capacity too.
func spoil[T any](l []T, x T) {
	all := l[:cap(l)]
	for i := range all {
		all[i] = x
	}
}

func TestResultsBelongToTheCaller(t *testing.T) {
	for n := range 20 {
		to, m := table(t, strings.Repeat("sst", n))
		c := to.Clone()
		for range 3 {
			for _, upto := range []int{0, n, 3*n - 1, 3 * n, math.MaxInt} {
				spoil(to.Positions("s", upto), 77)
				spoil(c.Positions("t", upto), 77)
			}
			spoil(to.Names(), "x")
			spoil(c.Names(), "x")
			wantTable(t, "the first", to, m)
			wantTable(t, "the clone", c, m)
		}
		wantAdd(t, to, "s", 3*n+1, 2*n+1)
		wantAdd(t, c, "t", 3*n+1, n+1)
	}
	to, _ := table(t, "sstst")
	a, b := to.Positions("s", 5), to.Positions("s", 5)
	spoil(a, 77)
	if !slices.Equal(b, []int{1, 2, 4}) {
		t.Errorf("two results share memory: %s", say(b))
	}
	before := to.Positions("s", 5)
	wantAdd(t, to, "s", 6, 4)
	if !slices.Equal(before, []int{1, 2, 4}) {
		t.Errorf("Add changes a result to %s", say(before))
	}
}

func TestTablesAreIndependent(t *testing.T) {
	a, m := table(t, "sst")
	b, k := table(t, "tu")
	m = put(t, a, m, "u", 4)
	k = put(t, b, k, "s", 3)
	wantTable(t, "one", a, m)
	wantTable(t, "the other", b, k)
}

func TestZeroValue(t *testing.T) {
	var none, zero Table
	wantTable(t, "the zero value", &zero, nil)
	wantTable(t, "its clone", zero.Clone(), nil)
	wantAdd(t, none.Clone(), "s", 1, 1)
	wantRefused(t, &zero, "s", 0)
	wantTable(t, "the zero value", &zero, nil)
	wantAdd(t, &zero, "s", 1, 1)
	wantAdd(t, &zero, "s", 2, 2)
	wantTable(t, "the zero value", &zero, tale{{"s", 1}, {"s", 2}})
	wantTable(t, "another zero value", &none, nil)
}

// dice throws the same numbers in each run.
type dice uint64

func (x *dice) throw(n int) int {
	*x = *x*6364136223846793005 + 1442695040888963407
	return int(uint64(*x)>>33) % n
}

// Long runs of calls on some tables and their clones.
func TestLongRuns(t *testing.T) {
	names := []string{"s", "t", "u", "", "kunde-7"}
	for seed := range 60 {
		x := dice(seed)
		tables, tales := []*Table{New()}, []tale{nil}
		for i := range 150 {
			at := x.throw(len(tables))
			to, m := tables[at], tales[at]
			if x.throw(15) == 0 && len(tables) < 6 {
				tables, tales = append(tables, to.Clone()), append(tales, m)
				continue
			}
			stream, pos := names[x.throw(len(names))], m.last()+x.throw(6)-2
			if pos <= m.last() {
				wantRefused(t, to, stream, pos)
			} else {
				tales[at] = put(t, to, m, stream, pos)
			}
			if i%10 == 0 {
				wantTable(t, "run "+strconv.Itoa(seed), to, tales[at])
			}
		}
		for i, to := range tables {
			wantTable(t, "run "+strconv.Itoa(seed), to, tales[i])
			wantApart(t, to, tales[i])
		}
	}
}

// wantApart is P12.3: each position is in one stream, and a stream's version at its n-th position is n.
func wantApart(t *testing.T, to *Table, m tale) {
	t.Helper()
	of := map[int]string{}
	for _, name := range to.Names() {
		l := to.Positions(name, math.MaxInt)
		if len(l) == 0 {
			t.Errorf("%q has no position", name)
		}
		for i, pos := range l {
			if other, taken := of[pos]; taken {
				t.Errorf("position %d is in %q and in %q", pos, other, name)
			}
			of[pos] = name
			if before, at := to.Version(name, pos-1), to.Version(name, pos); before != i || at != i+1 {
				t.Errorf("the version of %q goes from %d to %d at position %d, want from %d to %d", name, before, at, pos, i, i+1)
			}
		}
	}
	if len(of) != len(m) {
		t.Errorf("the streams have %d positions, want %d", len(of), len(m))
	}
	for _, a := range m {
		if of[a.pos] != a.stream {
			t.Errorf("position %d is in %q, want %q", a.pos, of[a.pos], a.stream)
		}
	}
}
