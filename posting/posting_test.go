package posting

import (
	"math"
	"slices"
	"strconv"
	"strings"
	"testing"

	"registrar/api"
	"registrar/query"
)

// added is a call of Add that was not refused; tale is all of them, in order: lists told the slow way.
type added struct {
	e   api.Event
	pos int
}

type tale []added

// of returns the positions of the events of which is says so.
func (m tale) of(is func(e api.Event) bool) []int {
	var l []int
	for _, a := range m {
		if is(a.e) {
			l = append(l, a.pos)
		}
	}
	return l
}

func (m tale) tag(tag string) []int {
	return m.of(func(e api.Event) bool { return slices.Contains(e.Tags, tag) })
}

func (m tale) kind(kind string) []int {
	return m.of(func(e api.Event) bool { return e.Type == kind })
}

// find goes by P13.4: it asks each event, not the lists.
func (m tale) find(q api.Query, upto int) []int {
	l := m.of(func(e api.Event) bool { return query.Match(q, e) })
	return slices.DeleteFunc(l, func(pos int) bool { return pos > upto })
}

func (m tale) last() int {
	if len(m) == 0 {
		return 0
	}
	return m[len(m)-1].pos
}

// edges are the numbers that Find is asked with: each position, those beside it, and the ends of all numbers.
func (m tale) edges() []int {
	l := []int{math.MinInt, -1, 0, 1, math.MaxInt}
	for _, a := range m {
		l = append(l, a.pos-1, a.pos, min(a.pos, math.MaxInt-1)+1)
	}
	slices.Sort(l)
	return slices.Compact(l)
}

// texts are all tags and types of m, each asked for as a tag and as a type, and some that m has not.
func (m tale) texts() []string {
	l := []string{"", "none", "a:none", "a:x\x00"}
	for _, a := range m {
		l = append(append(l, a.e.Type), a.e.Tags...)
	}
	slices.Sort(l)
	return slices.Compact(l)
}

// words makes a list of texts of one with blanks between.
func words(s string) []string { return strings.Fields(s) }

func ev(kind, tags string) api.Event {
	return api.Event{Stream: "s", Type: kind, Tags: words(tags)}
}

// ask makes a query of its clauses, each one tags / types.
func ask(clauses ...string) api.Query {
	var q api.Query
	for _, c := range clauses {
		tags, types, _ := strings.Cut(c, "/")
		q.Clauses = append(q.Clauses, api.Clause{Tags: words(tags), Types: words(types)})
	}
	return q
}

// queries are asked of all lists.
var queries = []api.Query{
	ask(), ask("/"), ask("/", "/"), ask("a:x /"), ask("/ t"), ask("a:x / t"), ask("a:x a:y /"), ask("a:x a:y / t u"),
	ask("/ t u v"), ask("a:x /", "a:y /"), ask("a:x / t", "a:y / u"), ask("a:none /"), ask("/ none"), ask("a:x / none"),
	ask("a:none / t"), ask("a:x a:none / t"), ask("a:none /", "/ t"), ask("/ none t"), ask("a:x / t", "/"),
	ask("a:x b:x b:y / t u", "a:y / v", "b:y /", "/ none"), ask("t /"), ask("/ a:x"),
}

func say(l []int) string {
	s := ""
	for _, n := range l {
		s += " " + strconv.Itoa(n)
	}
	return "[" + strings.TrimSpace(s) + "]"
}

func sayQuery(q api.Query) string {
	s := ""
	for _, c := range q.Clauses {
		s += "(" + strings.Join(c.Tags, " ") + " / " + strings.Join(c.Types, " ") + ")"
	}
	return s
}

func wantList(t *testing.T, what string, got, want []int) {
	t.Helper()
	if !slices.Equal(got, want) {
		t.Fatalf("%s is %s, want %s", what, say(got), say(want))
	}
}

// wantLists fails unless got tells what m tells.
func wantLists(t *testing.T, what string, got *Lists, m tale) {
	t.Helper()
	for _, s := range m.texts() {
		wantList(t, what+": Tag of "+strconv.Quote(s), got.Tag(s), m.tag(s))
		wantList(t, what+": Type of "+strconv.Quote(s), got.Type(s), m.kind(s))
	}
	for _, q := range queries {
		for _, upto := range m.edges() {
			wantFind(t, what, got, m, q, upto)
		}
	}
}

func wantFind(t *testing.T, what string, got *Lists, m tale, q api.Query, upto int) {
	t.Helper()
	if l, want := got.Find(q, upto), m.find(q, upto); !slices.Equal(l, want) {
		t.Fatalf("%s: Find of %s up to %d is %s, want %s", what, sayQuery(q), upto, say(l), say(want))
	}
}

// put adds to both.
func put(t *testing.T, p *Lists, m tale, e api.Event, pos int) tale {
	t.Helper()
	if code := p.Add(e, pos); code != api.OK {
		t.Fatalf("Add at %d is %d, want OK", pos, code)
	}
	return append(slices.Clip(m), added{e, pos})
}

func wantRefused(t *testing.T, p *Lists, e api.Event, pos int) {
	t.Helper()
	if code := p.Add(e, pos); code != api.ErrArg {
		t.Errorf("Add at %d is %d, want ErrArg", pos, code)
	}
}

// some are events of which each tag and type of the queries has some.
var some = []api.Event{
	ev("t", "a:x"), ev("u", "a:x a:y"), ev("t", ""), ev("v", "a:y b:x"), ev("t", "a:x a:y b:x b:y"), ev("u", "b:y"), ev("w", "a:x b:x b:y"),
}

// lists returns ones with n of the events of some, at 1, 2, and so on, and what they tell.
func lists(t *testing.T, n int) (*Lists, tale) {
	t.Helper()
	p, m := New(), tale(nil)
	for i := range n {
		m = put(t, p, m, some[i%len(some)], i+1)
	}
	return p, m
}

// The chapter's example.
func TestExample(t *testing.T) {
	wantList(t, "Both", Both([]int{1, 3, 5}, []int{3, 4, 5}), []int{3, 5})
	wantList(t, "Either", Either([]int{1, 3}, []int{2, 3}), []int{1, 2, 3})
}

func TestBothAndEither(t *testing.T) {
	far := []int{math.MinInt, -1, 0, 1, math.MaxInt}
	rows := []struct{ a, b, both, either []int }{
		{nil, nil, nil, nil},
		{[]int{}, nil, nil, nil},
		{nil, []int{7}, nil, []int{7}},
		{[]int{7}, []int{}, nil, []int{7}},
		{[]int{7}, []int{7}, []int{7}, []int{7}},
		{[]int{7}, []int{8}, nil, []int{7, 8}},
		{[]int{8}, []int{7}, nil, []int{7, 8}},
		{[]int{1, 2, 3}, []int{4, 5}, nil, []int{1, 2, 3, 4, 5}},
		{[]int{4, 5}, []int{1, 2, 3}, nil, []int{1, 2, 3, 4, 5}},
		{[]int{1, 2, 3}, []int{3, 4}, []int{3}, []int{1, 2, 3, 4}},
		{[]int{1, 9}, []int{2, 3, 4, 9, 10}, []int{9}, []int{1, 2, 3, 4, 9, 10}},
		{far, far, far, far},
		{far, []int{math.MinInt, 2, math.MaxInt}, []int{math.MinInt, math.MaxInt}, []int{math.MinInt, -1, 0, 1, 2, math.MaxInt}},
		{[]int{math.MinInt}, []int{math.MaxInt}, nil, []int{math.MinInt, math.MaxInt}},
		{[]int{math.MaxInt}, []int{math.MinInt}, nil, []int{math.MinInt, math.MaxInt}},
		{[]int{-3, -2}, []int{-2, 0}, []int{-2}, []int{-3, -2, 0}},
	}
	for _, r := range rows {
		what := say(r.a) + " and " + say(r.b)
		wantList(t, "Both of "+what, Both(r.a, r.b), r.both)
		wantList(t, "Either of "+what, Either(r.a, r.b), r.either)
	}
}

// bits returns the numbers of the bits of n that are set: a list of strictly increasing numbers.
func bits(n int) []int {
	var l []int
	for i := 0; n>>i > 0; i++ {
		if n>>i&1 == 1 {
			l = append(l, i-3)
		}
	}
	return l
}

// All pairs of lists with numbers from -3 to 4: of bit sets, 'and' and 'or' tell the same.
func TestBothAndEitherOfAllPairs(t *testing.T) {
	for a := range 256 {
		for b := range 256 {
			what := say(bits(a)) + " and " + say(bits(b))
			wantList(t, "Both of "+what, Both(bits(a), bits(b)), bits(a&b))
			wantList(t, "Either of "+what, Either(bits(a), bits(b)), bits(a|b))
		}
	}
}

func TestBothAndEitherOfLongLists(t *testing.T) {
	const n = 60000
	var twos, threes, both, either []int
	for i := range n {
		two, three := i%2 == 0, i%3 == 0
		if two {
			twos = append(twos, i)
		}
		if three {
			threes = append(threes, i)
		}
		if two && three {
			both = append(both, i)
		}
		if two || three {
			either = append(either, i)
		}
	}
	if !slices.Equal(Both(twos, threes), both) || !slices.Equal(Either(twos, threes), either) {
		t.Error("lists of many numbers are not put together rightly")
	}
	wantList(t, "Both with one", Both(twos, []int{n - 2}), []int{n - 2})
	wantList(t, "Both with one that is not there", Both([]int{n - 1}, twos), nil)
}

// The chapter promises nothing of lists that don't increase, but the calls end, and don't panic (R1).
func TestBothAndEitherOfWrongLists(t *testing.T) {
	wrong := [][]int{{1, 1, 1}, {3, 2, 1}, {5, 1, 5}, {math.MaxInt, math.MinInt}, {0, 0}, {2, 9, 2, 9}, nil}
	for _, a := range wrong {
		for _, b := range wrong {
			if n := len(Both(a, b)); n > len(a)+len(b) {
				t.Errorf("Both of %s and %s has %d numbers", say(a), say(b), n)
			}
			if n := len(Either(a, b)); n > len(a)+len(b) {
				t.Errorf("Either of %s and %s has %d numbers", say(a), say(b), n)
			}
		}
	}
}

// spoil writes over a list, its spare capacity too.
func spoil[T any](l []T, x T) {
	all := l[:cap(l)]
	for i := range all {
		all[i] = x
	}
}

// roomy returns a copy with spare capacity, all of it 55.
func roomy(l []int) []int {
	c := make([]int, len(l), len(l)+8)
	spoil(c, 55)
	copy(c, l)
	return c
}

// Neither call writes into its arguments, and no result shares memory with them, if one of them is empty too (R7).
func TestBothAndEitherTakeNewMemory(t *testing.T) {
	rows := [][2][]int{{{1, 3, 5}, {3, 4, 5}}, {{1, 2}, nil}, {nil, {1, 2}}, {{1, 2}, {1, 2}}, {{1, 2}, {3, 4}}, {nil, nil}}
	for _, r := range rows {
		for i, call := range []func(a, b []int) []int{Both, Either} {
			a, b := roomy(r[0]), roomy(r[1])
			first := call(a, b)
			kept := slices.Clone(first)
			spoil(call(a, b), 77)
			wantList(t, "an answer from before, of call "+strconv.Itoa(i), first, kept)
			spoil(first, 77)
			wantList(t, "the first argument", a, r[0])
			wantList(t, "the second argument", b, r[1])
			wantList(t, "its spare capacity", append(a[len(a):cap(a)], b[len(b):cap(b)]...), slices.Repeat([]int{55}, 16))
			second := call(a, b)
			spoil(a, 66)
			spoil(b, 66)
			wantList(t, "an answer when the arguments change", second, kept)
		}
	}
	l := []int{1, 2, 3}
	wantList(t, "Both of a list and itself", Both(l, l), l)
	spoil(Both(l, l), 77)
	spoil(Either(l, l), 77)
	wantList(t, "the list", l, []int{1, 2, 3})
}

func TestNewIsEmpty(t *testing.T) {
	wantLists(t, "New", New(), nil)
}

func TestAdd(t *testing.T) {
	p := New()
	m := put(t, p, nil, ev("t", "a:x b:y"), 2)
	wantLists(t, "one", p, m)
	m = put(t, p, m, ev("u", "a:x"), 3)
	m = put(t, p, m, ev("t", ""), 10)
	m = put(t, p, m, ev("t", "b:y c:z"), 11)
	wantLists(t, "four", p, m)
	rows := []struct {
		name      string
		tag, kind []int
	}{
		{"a:x", []int{2, 3}, nil}, {"b:y", []int{2, 11}, nil}, {"c:z", []int{11}, nil},
		{"t", nil, []int{2, 10, 11}}, {"u", nil, []int{3}}, {"", nil, nil}, {"a:", nil, nil}, {"T", nil, nil}, {"a:x b:y", nil, nil},
	}
	for _, r := range rows {
		wantList(t, "Tag of "+r.name, p.Tag(r.name), r.tag)
		wantList(t, "Type of "+r.name, p.Type(r.name), r.kind)
	}
	wantList(t, "all", p.Find(ask("/"), 11), []int{2, 3, 10, 11})
}

func TestAddOfWrongPositions(t *testing.T) {
	none := New()
	for _, pos := range []int{0, -1, -2, -1 << 40, math.MinInt} {
		wantRefused(t, none, ev("t", "a:x"), pos)
	}
	wantLists(t, "positions less than 1", none, nil)

	p, m := New(), tale(nil)
	m = put(t, p, m, ev("t", "a:x"), 4)
	m = put(t, p, m, ev("u", "a:y"), 9)
	for _, e := range []api.Event{ev("t", "a:x"), ev("u", "a:y"), ev("t", ""), ev("new", "a:new"), {}} {
		for _, pos := range []int{9, 8, 5, 4, 3, 1, 0, -1, -9, -10, math.MinInt} {
			wantRefused(t, p, e, pos)
		}
		wantLists(t, "positions not behind the last", p, m)
		wantList(t, "the tag of a refused event", p.Tag("a:new"), nil)
		wantList(t, "the type of a refused event", p.Type("new"), nil)
	}
	m = put(t, p, m, ev("t", "a:y"), 10)
	wantLists(t, "a position behind the last", p, m)
}

// What was refused doesn't count as added: the next position may be any one behind the last.
func TestAddBehindRefusedOnes(t *testing.T) {
	p, m := New(), tale(nil)
	wantRefused(t, p, ev("t", "a:x"), -5)
	m = put(t, p, m, ev("t", "a:x"), 1)
	wantRefused(t, p, ev("u", "a:y"), 1)
	wantRefused(t, p, ev("u", "a:y"), -7)
	wantRefused(t, p, ev("u", "a:y"), 1)
	m = put(t, p, m, ev("u", "a:y"), 2)
	m = put(t, p, m, ev("t", "a:x"), 3)
	wantLists(t, "refused ones between", p, m)
}

// An event without tags, and of the type of no other, has a position like any other.
func TestAddCountsEventsWithoutTags(t *testing.T) {
	p := New()
	m := put(t, p, nil, api.Event{}, 5)
	wantRefused(t, p, ev("t", "a:x"), 5)
	wantRefused(t, p, ev("t", "a:x"), 4)
	m = put(t, p, m, ev("t", "a:x"), 6)
	wantLists(t, "an event without anything", p, m)
	wantList(t, "Type of no text", p.Type(""), []int{5})
	wantList(t, "Tag of no text", p.Tag(""), nil)
}

// The chapter names no greatest position.
func TestAddOfGreatPositions(t *testing.T) {
	p, m := New(), tale(nil)
	for i, pos := range []int{1 << 20, 1<<20 + 1, 1 << 40, math.MaxInt - 1, math.MaxInt} {
		m = put(t, p, m, some[i], pos)
		wantLists(t, "a great position", p, m)
	}
	for _, pos := range []int{math.MaxInt, math.MinInt, 1} {
		wantRefused(t, p, some[0], pos)
	}
	wantLists(t, "the greatest position", p, m)
}

// An event may have a tag several times here, wherever in its list: the position is in the tag's list once.
func TestAddOfATagSeveralTimes(t *testing.T) {
	p, m := New(), tale(nil)
	for i, tags := range []string{"a:x a:x", "b:y a:x b:y a:x b:y", "a:y a:x a:x a:x a:x a:x a:x a:x", "a:x"} {
		m = put(t, p, m, ev("t", tags), 2*i+1)
		wantLists(t, "tags several times", p, m)
	}
	wantList(t, "Tag", p.Tag("a:x"), []int{1, 3, 5, 7})
	wantList(t, "Find", p.Find(ask("a:x /"), 9), []int{1, 3, 5, 7})
}

// A tag and a type with the same text are two things.
func TestTagsAreApartFromTypes(t *testing.T) {
	p, m := New(), tale(nil)
	m = put(t, p, m, ev("a:x", "t u"), 1)
	m = put(t, p, m, ev("t", "a:x"), 2)
	m = put(t, p, m, ev("t", "t"), 3)
	wantLists(t, "the same texts", p, m)
	wantList(t, "Tag", p.Tag("t"), []int{1, 3})
	wantList(t, "Type", p.Type("t"), []int{2, 3})
}

// Whether an event is valid is asked elsewhere.
func TestTagsAndTypesAreAnyTexts(t *testing.T) {
	p, m := New(), tale(nil)
	texts := []string{"", " ", "s", "S", "s ", "s\x00", "\x00", "\xff", "\xff\xfe", "ä", "a\u0308", "日本", "a:b", ":", "-", "7", strings.Repeat("z", 25), strings.Repeat("z", 1<<16)}
	for i, s := range append(texts, texts...) {
		m = put(t, p, m, api.Event{Stream: s, Type: s, Tags: []string{s, texts[(i+1)%len(texts)]}}, i+1)
	}
	m = put(t, p, m, api.Event{Type: "t", Tags: texts}, 100)
	wantLists(t, "any texts", p, m)
	for _, s := range texts {
		for _, upto := range []int{0, 1, 17, 18, 19, 99, 100} {
			wantFind(t, "any texts", p, m, api.Query{Clauses: []api.Clause{{Tags: []string{s}}}}, upto)
			wantFind(t, "any texts", p, m, api.Query{Clauses: []api.Clause{{Types: []string{s}}}}, upto)
		}
	}
}

// The stream and the fields of an event are of no weight.
func TestStreamsAndFieldsAreNotAsked(t *testing.T) {
	p := New()
	e := api.Event{Stream: "t", Type: "u", Tags: []string{"a:y"}, Fields: []api.Field{{Name: "t", N: 1}, {Name: "a:x", N: 2}}}
	m := put(t, p, nil, e, 1)
	wantLists(t, "a stream and fields", p, m)
	wantList(t, "Find", p.Find(ask("a:x /", "/ t"), 9), nil)
}

func TestFind(t *testing.T) {
	p := New()
	var m tale
	for i, pos := range []int{2, 3, 5, 8, 13, 21, 34} {
		m = put(t, p, m, some[i], pos)
	}
	rows := []struct {
		q    api.Query
		upto int
		want []int
	}{
		{ask(), 99, nil},
		{ask("/"), 99, []int{2, 3, 5, 8, 13, 21, 34}},
		{ask("/"), 34, []int{2, 3, 5, 8, 13, 21, 34}},
		{ask("/"), 33, []int{2, 3, 5, 8, 13, 21}},
		{ask("/"), 2, []int{2}},
		{ask("/"), 1, nil},
		{ask("/"), 0, nil},
		{ask("/"), -1, nil},
		{ask("/"), math.MinInt, nil},
		{ask("/"), math.MaxInt, []int{2, 3, 5, 8, 13, 21, 34}},
		{ask("a:x /"), 99, []int{2, 3, 13, 34}},
		{ask("a:x /"), 13, []int{2, 3, 13}},
		{ask("a:x /"), 12, []int{2, 3}},
		{ask("a:x a:y /"), 99, []int{3, 13}},
		{ask("a:x b:x b:y /"), 99, []int{13, 34}},
		{ask("a:x a:y b:x b:y /"), 99, []int{13}},
		{ask("a:x a:none /"), 99, nil},
		{ask("/ t"), 99, []int{2, 5, 13}},
		{ask("/ t"), 5, []int{2, 5}},
		{ask("/ t"), 4, []int{2}},
		{ask("/ t u"), 99, []int{2, 3, 5, 13, 21}},
		{ask("/ t u v w"), 20, []int{2, 3, 5, 8, 13}},
		{ask("/ none"), 99, nil},
		{ask("/ none u"), 99, []int{3, 21}},
		{ask("a:x / t"), 99, []int{2, 13}},
		{ask("a:x / t u"), 99, []int{2, 3, 13}},
		{ask("a:x / none"), 99, nil},
		{ask("a:none / t"), 99, nil},
		{ask("a:x /", "a:y /"), 99, []int{2, 3, 8, 13, 34}},
		{ask("b:y / u", "a:x / t"), 99, []int{2, 13, 21}},
		{ask("b:y / u", "a:x / t"), 13, []int{2, 13}},
		{ask("/ t", "/ t", "/ t"), 99, []int{2, 5, 13}},
		{ask("/ none", "/", "/ t"), 8, []int{2, 3, 5, 8}},
	}
	for _, r := range rows {
		if l := p.Find(r.q, r.upto); !slices.Equal(l, r.want) {
			t.Errorf("Find of %s up to %d is %s, want %s", sayQuery(r.q), r.upto, say(l), say(r.want))
		}
	}
	wantLists(t, "asked", p, m)
}

// Find takes queries that are not valid as they are, as query.Match does.
func TestFindOfQueriesThatAreNotValid(t *testing.T) {
	p, m := lists(t, 21)
	wrong := []api.Query{
		ask("a:y a:x /"), ask("a:x a:x a:x /"), ask("/ u t"), ask("/ t t t"), ask("a:x a:x / u u t"),
		ask("/", "/", "/", "/", "/", "/ t"), ask("/ t", "/ u", "/ v", "/ w", "a:y /", "b:y /"),
		ask("a:x a:y b:x b:y a:x a:y b:x b:y /"), ask("/ a b c d e f t"), ask("no-tag /"), ask("/ a:x:y 7"),
		{Clauses: []api.Clause{{Tags: []string{""}}}}, {Clauses: []api.Clause{{Types: []string{""}}}},
		{Clauses: []api.Clause{{Tags: []string{}, Types: []string{}}}}, {Clauses: []api.Clause{}},
	}
	for _, q := range wrong {
		for upto := -1; upto < 23; upto++ {
			wantFind(t, "a query that is not valid", p, m, q, upto)
		}
	}
}

func TestAskingAddsNothing(t *testing.T) {
	p, m := lists(t, 7)
	p.Tag("a:new")
	p.Type("new")
	p.Find(ask("a:new / new"), 7)
	p.Clone()
	wantLists(t, "asked", p, m)
	m = put(t, p, m, ev("t", "a:x"), 8)
	wantLists(t, "asked, and added to", p, m)
}

// At each length of the lists, with and without spare capacity: both copies go on with other positions.
func TestClonesAreApart(t *testing.T) {
	for n := range 20 {
		for _, first := range []bool{true, false} {
			p, m := lists(t, n)
			c, k := p.Clone(), m
			wantLists(t, "a clone", c, m)
			for i := range 8 {
				if (i%2 == 0) == first {
					m = put(t, p, m, ev("t", "a:x b:x c:new"), m.last()+2)
				} else {
					k = put(t, c, k, ev("t", "a:x b:y d:new"), k.last()+3)
					k = put(t, c, k, ev("u", "a:y"), k.last()+1)
				}
				wantLists(t, "the first", p, m)
				wantLists(t, "the clone", c, k)
			}
		}
	}
}

func TestSeveralClonesOfOne(t *testing.T) {
	for n := range 8 {
		p, m := lists(t, n)
		copies, tales := []*Lists{p}, []tale{m}
		for range 3 {
			for i := range len(copies) {
				copies, tales = append(copies, copies[i].Clone()), append(tales, tales[i])
			}
			for i, c := range copies {
				tales[i] = put(t, c, tales[i], ev("t", "a:x"), tales[i].last()+i+1)
			}
			for i, c := range copies {
				wantLists(t, "copy "+strconv.Itoa(i), c, tales[i])
			}
		}
	}
}

// A clone has the last position too, and one that was taken by the one is still free in the other.
func TestClonesHaveTheLastPosition(t *testing.T) {
	p, m := lists(t, 3)
	c, k := p.Clone(), m
	wantRefused(t, c, ev("t", "a:x"), 3)
	wantRefused(t, c, ev("new", "a:new"), 2)
	k = put(t, c, k, ev("u", "a:y"), 9)
	wantRefused(t, c, ev("t", "a:x"), 4)
	m = put(t, p, m, ev("t", "a:x"), 4)
	wantLists(t, "the first", p, m)
	wantLists(t, "the clone", c, k)
}

func TestCloneOfNothing(t *testing.T) {
	p := New()
	c := p.Clone()
	wantLists(t, "the clone", c, nil)
	k := put(t, c, nil, ev("t", "a:x"), 1)
	wantLists(t, "the first", p, nil)
	m := put(t, p, nil, ev("u", "a:x"), 7)
	wantLists(t, "the first", p, m)
	wantLists(t, "the clone", c, k)
}

func TestResultsBelongToTheCaller(t *testing.T) {
	for n := range 20 {
		p, m := lists(t, n)
		c, k := p.Clone(), m
		for range 2 {
			for _, x := range []*Lists{p, c} {
				spoil(x.Tag("a:x"), 77)
				spoil(x.Type("t"), 77)
				for _, q := range queries {
					spoil(x.Find(q, n/2), 77)
					spoil(x.Find(q, 99), 77)
				}
			}
			wantLists(t, "the first", p, m)
			wantLists(t, "the clone", c, k)
			m = put(t, p, m, ev("t", "a:x"), m.last()+1)
			k = put(t, c, k, ev("u", "a:x a:y"), k.last()+1)
		}
	}
}

func TestResultsDoNotChange(t *testing.T) {
	p, _ := lists(t, 7)
	calls := []func() []int{
		func() []int { return p.Tag("a:x") }, func() []int { return p.Type("t") }, func() []int { return p.Find(ask("/"), 99) },
		func() []int { return p.Find(ask("a:x /"), 99) }, func() []int { return p.Find(ask("/ t"), 99) }, func() []int { return p.Find(ask("a:x / t"), 99) },
	}
	var before, kept [][]int
	for _, call := range calls {
		before = append(before, call())
		kept = append(kept, slices.Clone(before[len(before)-1]))
	}
	for i := range 20 {
		if code := p.Add(ev("t", "a:x"), 8+i); code != api.OK {
			t.Fatalf("Add is %d", code)
		}
	}
	for i, call := range calls {
		spoil(call(), 77)
		wantList(t, "an answer from before, of call "+strconv.Itoa(i), before[i], kept[i])
	}
}

// An event and a query stay as they are, their spare capacity too, and may change later without a change of the lists.
func TestArgumentsAreNeitherChangedNorKept(t *testing.T) {
	p, m := lists(t, 7)
	tags := []string{"b:y", "a:x", "b:y", "left", "left"}
	e := api.Event{Stream: "s", Type: "t", Tags: tags[:3]}
	if code := p.Add(e, 8); code != api.OK {
		t.Fatalf("Add is %d", code)
	}
	m = append(m, added{ev("t", "a:x b:y"), 8})
	if !slices.Equal(tags, words("b:y a:x b:y left left")) {
		t.Errorf("Add changes tags to %q", tags)
	}
	spoil(tags, "a:y")
	wantLists(t, "an event that changed", p, m)

	terms := words("b:y a:x left left")
	kinds := words("u t left left")
	clauses := []api.Clause{{Tags: terms[:2], Types: kinds[:2]}, {Tags: terms[:1]}, {Types: words("left")}}
	wantList(t, "Find", p.Find(api.Query{Clauses: clauses[:2]}, 99), []int{5, 6, 7, 8})
	if !slices.Equal(terms, words("b:y a:x left left")) || !slices.Equal(kinds, words("u t left left")) {
		t.Errorf("Find changes terms to %q and %q", terms, kinds)
	}
	if len(clauses[2].Tags) != 0 || !slices.Equal(clauses[2].Types, words("left")) {
		t.Error("Find changes clauses")
	}
	wantLists(t, "asked", p, m)
}

func TestListsAreIndependent(t *testing.T) {
	a, m := lists(t, 3)
	b, k := lists(t, 2)
	m = put(t, a, m, ev("u", "a:x"), 4)
	k = put(t, b, k, ev("t", "a:y"), 3)
	wantLists(t, "one", a, m)
	wantLists(t, "the other", b, k)
}

func TestZeroValue(t *testing.T) {
	var none, zero Lists
	wantLists(t, "the zero value", &zero, nil)
	c := zero.Clone()
	wantLists(t, "its clone", c, nil)
	put(t, c, nil, ev("t", "a:x"), 1)
	wantRefused(t, &zero, ev("t", "a:x"), 0)
	wantLists(t, "the zero value", &zero, nil)
	m := put(t, &zero, nil, ev("t", "a:x"), 1)
	m = put(t, &zero, m, ev("u", "a:x a:y"), 2)
	wantLists(t, "the zero value", &zero, m)
	wantLists(t, "another zero value", &none, nil)
}

// dice throws the same numbers in each run.
type dice uint64

func (x *dice) throw(n int) int {
	*x = *x*6364136223846793005 + 1442695040888963407
	return int(uint64(*x)>>33) % n
}

// pick returns up to most of the texts, in any order.
func (x *dice) pick(texts []string, most int) []string {
	var l []string
	for range x.throw(most + 1) {
		l = append(l, texts[x.throw(len(texts))])
	}
	return l
}

func (x *dice) event() api.Event {
	return api.Event{Stream: "s", Type: words("t u v w")[x.throw(4)], Tags: x.pick(words("a:x a:y b:x b:y c:z"), 4)}
}

func (x *dice) query() api.Query {
	var q api.Query
	for range x.throw(4) {
		q.Clauses = append(q.Clauses, api.Clause{Tags: x.pick(words("a:x a:y b:x b:y c:z"), 3), Types: x.pick(words("t u v w x"), 3)})
	}
	return q
}

// Long runs of calls on some lists and their clones: Find answers what query.Match says of each event (P13.4).
func TestLongRuns(t *testing.T) {
	for seed := range 60 {
		x := dice(seed)
		all, tales := []*Lists{New()}, []tale{nil}
		for range 200 {
			at := x.throw(len(all))
			p, m := all[at], tales[at]
			if x.throw(15) == 0 && len(all) < 6 {
				all, tales = append(all, p.Clone()), append(tales, m)
				continue
			}
			if e, pos := x.event(), m.last()+x.throw(6)-2; pos <= m.last() {
				wantRefused(t, p, e, pos)
			} else {
				tales[at] = put(t, p, m, e, pos)
			}
			wantFind(t, "run "+strconv.Itoa(seed), p, tales[at], x.query(), x.throw(m.last()+5))
		}
		for i, p := range all {
			wantLists(t, "run "+strconv.Itoa(seed), p, tales[i])
		}
	}
}

// A log of many events, with a tag that is rare and one that all have.
func TestManyPositions(t *testing.T) {
	const n = 1 << 16
	p := New()
	for i := range n {
		e := ev("t", "all:x")
		if i%10000 == 9999 {
			e = ev("u", "all:x rare:x")
		}
		if code := p.Add(e, i+1); code != api.OK {
			t.Fatalf("Add at %d is %d", i+1, code)
		}
	}
	rare := []int{10000, 20000, 30000, 40000, 50000, 60000}
	wantList(t, "rare", p.Find(ask("rare:x /"), n), rare)
	wantList(t, "rare of all", p.Find(ask("all:x rare:x / t u"), n), rare)
	wantList(t, "rare of a type", p.Find(ask("all:x / u"), 20000), rare[:2])
	wantList(t, "none of a type", p.Find(ask("rare:x / t"), n), nil)
	if l := p.Find(ask("all:x /", "/"), n); len(l) != n || l[0] != 1 || l[n-1] != n {
		t.Errorf("Find of all has %d positions", len(l))
	}
}
