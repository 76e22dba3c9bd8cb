package index

import (
	"math"
	"slices"
	"strconv"
	"strings"
	"testing"

	"registrar/api"
	"registrar/batch"
	"registrar/event"
	"registrar/query"
)

// tale is all events that were added, in order: an index told the slow way.
type tale []api.Event

// all returns every record: the version is counted anew for each one.
func (m tale) all() []api.Rec {
	var l []api.Rec
	for i, e := range m {
		version := 0
		for _, f := range m[:i+1] {
			if f.Stream == e.Stream {
				version++
			}
		}
		l = append(l, api.Rec{Pos: i + 1, Version: version, Event: e})
	}
	return l
}

// of returns those of the records of which is says so.
func of(recs []api.Rec, is func(r api.Rec) bool) []api.Rec {
	var l []api.Rec
	for _, r := range recs {
		if is(r) {
			l = append(l, r)
		}
	}
	return l
}

// edges are the numbers that an index is asked with: each position, those beside it, and the ends of all numbers.
func (m tale) edges() []int {
	l := []int{math.MinInt, math.MinInt + 1, -api.MaxEvents, -2, -1}
	for n := range len(m) + 3 {
		l = append(l, n)
	}
	return append(l, api.MaxEvents, api.MaxEvents+1, math.MaxInt-1, math.MaxInt)
}

// words makes a list of texts of one with blanks between.
func words(s string) []string { return strings.Fields(s) }

// ev makes an event with a field that tells it from others.
func ev(stream, kind, tags string) api.Event {
	n := len(stream) + 10*len(kind) + 100*len(tags)
	return api.Event{Stream: stream, Type: kind, Tags: words(tags), Fields: []api.Field{{Name: "n", N: n}, {Name: "o", N: -n}}}
}

// ask makes a query of its clauses, each one tags / types.
func ask(clauses ...string) api.Query {
	var q api.Query
	for _, c := range clauses {
		tags, types, _ := strings.Cut(c, "/")
		q.Clauses = append(q.Clauses, api.Clause{Tags: words(tags), Types: words(types)})
	}
	return q
}

// queries are asked of all indexes.
var queries = []api.Query{
	ask(), ask("/"), ask("a:x /"), ask("/ t"), ask("a:x / t"), ask("a:x a:y /"), ask("a:x a:y / t u"), ask("/ t u v"),
	ask("a:x /", "a:y /"), ask("a:x / t", "a:y / u"), ask("a:none /"), ask("/ none"), ask("a:x / none"), ask("a:none / t"),
	ask("a:none /", "/ t"), ask("/ none t"), ask("a:x / t", "/"), ask("/ s"), ask("s /"),
}

func sayQuery(q api.Query) string {
	s := ""
	for _, c := range q.Clauses {
		s += "(" + strings.Join(c.Tags, " ") + " / " + strings.Join(c.Types, " ") + ")"
	}
	return s
}

func say(l []api.Rec) string {
	s := ""
	for _, r := range l {
		s += " " + strconv.Itoa(r.Pos) + "." + strconv.Itoa(r.Version) + ":" + r.Event.Stream + "," + r.Event.Type + "," + strings.Join(r.Event.Tags, "+")
		for _, f := range r.Event.Fields {
			s += "," + f.Name + strconv.Itoa(f.N)
		}
	}
	return "[" + strings.TrimSpace(s) + "]"
}

// places are the positions of records.
func places(l []api.Rec) string {
	s := ""
	for _, r := range l {
		s += " " + strconv.Itoa(r.Pos)
	}
	return strings.TrimSpace(s)
}

func sameRec(a, b api.Rec) bool {
	return a.Pos == b.Pos && a.Version == b.Version && event.Same(a.Event, b.Event)
}

func wantRecs(t *testing.T, what string, got, want []api.Rec) {
	t.Helper()
	if !slices.EqualFunc(got, want, sameRec) {
		t.Fatalf("%s is %s, want %s", what, say(got), say(want))
	}
}

// wantIndex fails unless got tells what m tells, of streams that it has none of too.
func wantIndex(t *testing.T, what string, got *Index, m tale) {
	t.Helper()
	if n := got.Last(); n != len(m) {
		t.Fatalf("%s: Last is %d, want %d", what, n, len(m))
	}
	all := m.all()
	names := []string{"", "none", "s\x00", "t", "a:x"}
	for _, e := range m {
		names = append(names, e.Stream)
	}
	slices.Sort(names)
	names = slices.Compact(names)
	for _, upto := range m.edges() {
		up := what + ": up to " + strconv.Itoa(upto)
		early := of(all, func(r api.Rec) bool { return r.Pos <= upto })
		wantRecs(t, up+" All", got.All(upto), early)
		for _, name := range names {
			wantStream(t, up, got, early, name, upto)
		}
	}
	for _, q := range queries {
		wantQuery(t, what, got, m, q)
	}
}

func wantStream(t *testing.T, what string, got *Index, early []api.Rec, name string, upto int) {
	t.Helper()
	want := of(early, func(r api.Rec) bool { return r.Event.Stream == name })
	wantRecs(t, what+" Stream of "+strconv.Quote(name), got.Stream(name, upto), want)
	if n := got.Version(name, upto); n != len(want) {
		t.Fatalf("%s Version of %q is %d, want %d", what, name, n, len(want))
	}
}

// wantQuery asks each record by query.Match.
func wantQuery(t *testing.T, what string, got *Index, m tale, q api.Query) {
	t.Helper()
	found := of(m.all(), func(r api.Rec) bool { return query.Match(q, r.Event) })
	for _, n := range m.edges() {
		at := what + ": of " + sayQuery(q) + " at " + strconv.Itoa(n)
		wantRecs(t, at+" Query", got.Query(q, n), of(found, func(r api.Rec) bool { return r.Pos <= n }))
		later := of(found, func(r api.Rec) bool { return r.Pos > n })
		if yes := got.Since(q, n); yes != (len(later) > 0) {
			t.Fatalf("%s Since is %t, and behind it there is %s", at, yes, say(later))
		}
	}
}

// put adds a batch to both, and holds the answer against the tale.
func put(t *testing.T, x *Index, m tale, l ...api.Event) tale {
	t.Helper()
	recs, code := x.Add(api.Batch{After: len(m), Events: l})
	if code != api.OK {
		t.Fatalf("Add behind %d is %d, want OK", len(m), code)
	}
	m = append(slices.Clip(m), l...)
	wantRecs(t, "Add", recs, m.all()[len(m)-len(l):])
	return m
}

func wantRefused(t *testing.T, what string, x *Index, b api.Batch, want api.Errno) {
	t.Helper()
	if recs, code := x.Add(b); code != want || len(recs) != 0 {
		t.Errorf("%s: Add is %s, %d, want %d", what, say(recs), code, want)
	}
}

// some are valid events of which each stream and query above has some.
var some = []api.Event{
	ev("s", "t", "a:x"), ev("s", "u", "a:x a:y"), ev("t", "t", ""), ev("s", "v", "a:y"), {Stream: "u", Type: "t"},
	ev("t", "t", "a:x a:y b:x"), ev("s", "w", "b:x"), ev("u", "s", "a:x"),
}

// index returns one with n of the events of some, in batches of up to size, and what it tells.
func index(t *testing.T, n, size int) (*Index, tale) {
	t.Helper()
	x, m := New(), tale(nil)
	for len(m) < n {
		var l []api.Event
		for i := range min(size, n-len(m)) {
			l = append(l, some[(len(m)+i)%len(some)])
		}
		m = put(t, x, m, l...)
	}
	return x, m
}

func TestNewIsEmpty(t *testing.T) {
	wantIndex(t, "New", New(), nil)
}

// The chapter's example.
func TestExample(t *testing.T) {
	x := New()
	s, u := ev("s", "k", ""), ev("t", "k", "")
	one, code := x.Add(api.Batch{Events: []api.Event{s, s}})
	if code != api.OK {
		t.Fatalf("the first Add is %d", code)
	}
	two, code := x.Add(api.Batch{After: 2, Events: []api.Event{u}})
	if code != api.OK {
		t.Fatalf("the second Add is %d", code)
	}
	wantRecs(t, "the first Add", one, []api.Rec{{Pos: 1, Version: 1, Event: s}, {Pos: 2, Version: 2, Event: s}})
	wantRecs(t, "the second Add", two, []api.Rec{{Pos: 3, Version: 1, Event: u}})
	if n := x.Version("s", 1); n != 1 {
		t.Errorf("Version is %d, want 1", n)
	}
	wantIndex(t, "the example", x, tale{s, s, u})
}

// A batch's records have positions behind the last one, and versions in streams that take turns.
func TestAddAnswersTheRecords(t *testing.T) {
	x := New()
	rows := []struct {
		streams  string
		versions []int
	}{
		{"s", []int{1}}, {"s t s", []int{2, 1, 3}}, {"u u u u", []int{1, 2, 3, 4}}, {"t s u t", []int{2, 4, 5, 3}},
		{"a b c d e f g h i j k l m n o p", []int{1, 1, 1, 1, 1, 1, 1, 1, 1, 1, 1, 1, 1, 1, 1, 1}},
		{"p p p p p p p p p p p p p p p s", []int{2, 3, 4, 5, 6, 7, 8, 9, 10, 11, 12, 13, 14, 15, 16, 5}},
	}
	last := 0
	for _, r := range rows {
		b := api.Batch{After: last}
		var want []api.Rec
		for i, stream := range words(r.streams) {
			e := ev(stream, "t", "a:x b:x")
			b.Events = append(b.Events, e)
			want = append(want, api.Rec{Pos: last + i + 1, Version: r.versions[i], Event: e})
		}
		recs, code := x.Add(b)
		if code != api.OK {
			t.Fatalf("Add of %s is %d", r.streams, code)
		}
		wantRecs(t, "Add of "+r.streams, recs, want)
		last += len(b.Events)
		if n := x.Last(); n != last {
			t.Fatalf("Last is %d, want %d", n, last)
		}
	}
}

// wrong are batches that batch.May refuses, and its errors.
func wrong() map[string]api.Batch {
	good, name, tags := ev("s", "t", "a:x"), ev("S", "t", "a:x"), ev("s", "t", "b:x a:x")
	big := ev("s", "t", "a:a a:b a:c a:d a:e a:f a:g")
	many := slices.Repeat([]api.Event{good}, api.MaxBatch+1)
	return map[string]api.Batch{
		"22 no events":           {},
		"22 an empty list":       {Events: []api.Event{}},
		"3 17 events":            {Events: many},
		"3 17 wrong events":      {Events: slices.Repeat([]api.Event{name}, api.MaxBatch+1)},
		"5 a stream":             {Events: []api.Event{name}},
		"5 no event":             {Events: []api.Event{{}}},
		"5 a wrong one behind":   {Events: []api.Event{good, good, name}},
		"1 a wrong one, first":   {Events: []api.Event{tags, name}},
		"1 tags that fall":       {Events: []api.Event{good, tags}},
		"3 too many tags":        {Events: []api.Event{good, big, good}},
		"1 a wrong one, of many": {Events: append(slices.Clone(many[:15]), tags)},
	}
}

// The error of batch.May goes ahead of that of After, and nothing of such a batch stays.
func TestAddOfWrongBatches(t *testing.T) {
	for _, n := range []int{0, 1, 5, 16} {
		x, m := index(t, n, 3)
		for name, b := range wrong() {
			for _, after := range []int{n, n - 1, n + 1, 0, -1, api.MaxEvents, math.MaxInt, math.MinInt} {
				b.After = after
				want, _, _ := strings.Cut(name, " ")
				code, _ := strconv.Atoi(want)
				if may := batch.May(b); may != api.Errno(code) {
					t.Fatalf("%s: May is %d", name, may)
				}
				wantRefused(t, name+" behind "+strconv.Itoa(after), x, b, api.Errno(code))
			}
			wantIndex(t, name, x, m)
		}
		m = put(t, x, m, some[:3]...)
		wantIndex(t, "wrong batches, and one", x, m)
	}
}

func TestAddOfAfterThatIsNotLast(t *testing.T) {
	for _, n := range []int{0, 1, 2, 7, 20} {
		for _, size := range []int{1, 16} {
			x, m := index(t, n, size)
			for _, after := range m.edges() {
				if after != n {
					wantRefused(t, "after "+strconv.Itoa(after), x, api.Batch{After: after, Events: some[:2]}, api.ErrArg)
				}
			}
			wantIndex(t, "refused ones", x, m)
			m = put(t, x, m, some[2:4]...)
			wantRefused(t, "again", x, api.Batch{After: n, Events: some[2:4]}, api.ErrArg)
			wantIndex(t, "one, and refused ones", x, m)
		}
	}
}

// The log has an end, and a batch that goes over it leaves nothing.
func TestAFullIndex(t *testing.T) {
	x := New()
	e := api.Event{Stream: "s", Type: "t"}
	l := slices.Repeat([]api.Event{e}, api.MaxBatch)
	add := func(n int) {
		t.Helper()
		if recs, code := x.Add(api.Batch{After: x.Last(), Events: l[:n]}); code != api.OK || len(recs) != n {
			t.Fatalf("Add of %d behind %d is %d, with %d records", n, x.Last(), code, len(recs))
		}
	}
	for x.Last() < api.MaxEvents-api.MaxBatch {
		add(api.MaxBatch)
	}
	add(api.MaxBatch - 2)
	wantRefused(t, "3 of 2", x, api.Batch{After: api.MaxEvents - 2, Events: l[:3]}, api.ErrArg)
	add(1)
	wantRefused(t, "2 of 1", x, api.Batch{After: api.MaxEvents - 1, Events: l[:2]}, api.ErrArg)
	add(1)
	wantRefused(t, "1 of 0", x, api.Batch{After: api.MaxEvents, Events: l[:1]}, api.ErrArg)
	if x.Last() != api.MaxEvents || x.Version("s", math.MaxInt) != api.MaxEvents || x.Version("s", 77) != 77 {
		t.Errorf("Last is %d, Version %d", x.Last(), x.Version("s", math.MaxInt))
	}
	recs := x.All(math.MaxInt)
	for i, r := range recs {
		if !sameRec(r, api.Rec{Pos: i + 1, Version: i + 1, Event: e}) {
			t.Fatalf("record %d is %s", i+1, say(recs[i:i+1]))
		}
	}
	if len(recs) != api.MaxEvents || !x.Since(ask("/"), api.MaxEvents-1) || x.Since(ask("/"), api.MaxEvents) {
		t.Errorf("there are %d records", len(recs))
	}
}

// told is an index of seven records, in three batches, of which the tests below say all by hand.
func told(t *testing.T) *Index {
	t.Helper()
	x, m := New(), tale(nil)
	m = put(t, x, m, ev("s", "put", "a:x"), ev("t", "put", "a:y"))
	m = put(t, x, m, ev("s", "del", "a:x b:x"), ev("s", "put", ""), ev("u", "add", "b:x"))
	m = put(t, x, m, ev("t", "add", "a:x"), ev("s", "put", "a:x b:x"))
	wantIndex(t, "told", x, m)
	return x
}

func TestAll(t *testing.T) {
	x := told(t)
	rows := []struct {
		upto int
		want string
	}{
		{math.MinInt, ""}, {-1, ""}, {0, ""}, {1, "1"}, {2, "1 2"}, {4, "1 2 3 4"}, {6, "1 2 3 4 5 6"},
		{7, "1 2 3 4 5 6 7"}, {8, "1 2 3 4 5 6 7"}, {math.MaxInt, "1 2 3 4 5 6 7"},
	}
	for _, r := range rows {
		if got := places(x.All(r.upto)); got != r.want {
			t.Errorf("All up to %d is %s, want %s", r.upto, got, r.want)
		}
	}
}

func TestStreamAndVersion(t *testing.T) {
	x := told(t)
	rows := []struct {
		name string
		upto int
		want string
	}{
		{"s", 7, "1 3 4 7"}, {"s", math.MaxInt, "1 3 4 7"}, {"s", 6, "1 3 4"}, {"s", 4, "1 3 4"}, {"s", 3, "1 3"}, {"s", 2, "1"},
		{"s", 1, "1"}, {"s", 0, ""}, {"s", -1, ""}, {"s", math.MinInt, ""}, {"t", 9, "2 6"}, {"t", 6, "2 6"}, {"t", 5, "2"},
		{"t", 1, ""}, {"u", 9, "5"}, {"u", 5, "5"}, {"u", 4, ""}, {"put", 9, ""}, {"a:x", 9, ""}, {"", 9, ""}, {"S", 9, ""}, {"v", 9, ""},
	}
	for _, r := range rows {
		recs := x.Stream(r.name, r.upto)
		if got := places(recs); got != r.want {
			t.Errorf("Stream of %q up to %d is %s, want %s", r.name, r.upto, got, r.want)
		}
		if n := x.Version(r.name, r.upto); n != len(words(r.want)) {
			t.Errorf("Version of %q up to %d is %d, want %d", r.name, r.upto, n, len(words(r.want)))
		}
		for i, rec := range recs {
			if rec.Version != i+1 {
				t.Errorf("the version at %d is %d, want %d", rec.Pos, rec.Version, i+1)
			}
		}
	}
}

func TestQuery(t *testing.T) {
	x := told(t)
	rows := []struct {
		q    api.Query
		upto int
		want string
	}{
		{ask(), 9, ""}, {ask("/"), 9, "1 2 3 4 5 6 7"}, {ask("/"), 3, "1 2 3"}, {ask("/"), 0, ""}, {ask("/"), -1, ""},
		{ask("/"), math.MinInt, ""}, {ask("/"), math.MaxInt, "1 2 3 4 5 6 7"}, {ask("a:x /"), 9, "1 3 6 7"}, {ask("a:x /"), 6, "1 3 6"},
		{ask("a:x /"), 5, "1 3"}, {ask("a:x b:x /"), 9, "3 7"}, {ask("/ put"), 9, "1 2 4 7"}, {ask("/ put del"), 9, "1 2 3 4 7"},
		{ask("a:x / put"), 9, "1 7"}, {ask("a:y /", "b:x /"), 9, "2 3 5 7"}, {ask("b:x / add", "a:x / del"), 9, "3 5"},
		{ask("/ s"), 9, ""}, {ask("a:none /"), 9, ""}, {ask("a:x / none", "/ add"), 9, "5 6"}, {ask("/ add", "/ add"), 5, "5"},
	}
	for _, r := range rows {
		if got := places(x.Query(r.q, r.upto)); got != r.want {
			t.Errorf("Query of %s up to %d is %s, want %s", sayQuery(r.q), r.upto, got, r.want)
		}
	}
}

func TestSince(t *testing.T) {
	x := told(t)
	rows := []struct {
		q     api.Query
		after int
		want  bool
	}{
		{ask("/"), math.MinInt, true}, {ask("/"), -1, true}, {ask("/"), 0, true}, {ask("/"), 6, true}, {ask("/"), 7, false},
		{ask("/"), 8, false}, {ask("/"), math.MaxInt, false}, {ask(), 0, false}, {ask(), math.MinInt, false},
		{ask("/ del"), 0, true}, {ask("/ del"), 2, true}, {ask("/ del"), 3, false}, {ask("/ del"), 4, false},
		{ask("a:y /"), 1, true}, {ask("a:y /"), 2, false}, {ask("b:x / add"), 4, true}, {ask("b:x / add"), 5, false},
		{ask("a:y /", "b:x /"), 6, true}, {ask("a:y /", "/ add"), 5, true}, {ask("a:y /", "/ add"), 6, false}, {ask("/ none"), 0, false},
	}
	for _, r := range rows {
		if got := x.Since(r.q, r.after); got != r.want {
			t.Errorf("Since of %s behind %d is %t, want %t", sayQuery(r.q), r.after, got, r.want)
		}
	}
	if New().Since(ask("/"), 0) || New().Since(ask("/"), -1) {
		t.Error("there is something in nothing")
	}
}

// Each number of records, with each size of batches.
func TestAskedAtAllLengths(t *testing.T) {
	for n := range 18 {
		for _, size := range []int{1, 2, 5, 16} {
			x, m := index(t, n, size)
			wantIndex(t, strconv.Itoa(n)+" records", x, m)
		}
	}
}

// An index takes queries and streams as they are, valid or not.
func TestQueriesAndStreamsThatAreNotValid(t *testing.T) {
	x, m := index(t, 20, 4)
	queries := []api.Query{
		ask("a:y a:x /"), ask("a:x a:x a:x /"), ask("/ u t"), ask("/ t t t"), ask("/", "/", "/", "/", "/", "/ t"),
		ask("/ t", "/ u", "/ v", "/ w", "a:y /", "b:y /"), ask("a:x a:y a:x a:y a:x a:y /"), ask("/ a b c d e f t"), ask("no-tag /"),
		{Clauses: []api.Clause{{Tags: []string{""}}}}, {Clauses: []api.Clause{{Types: []string{""}}}}, {Clauses: []api.Clause{}},
	}
	for _, q := range queries {
		wantQuery(t, "a query that is not valid", x, m, q)
	}
	for _, name := range []string{"", "S", " s", "s ", "\xff", strings.Repeat("s", 25)} {
		wantStream(t, "no name", x, nil, name, 99)
	}
}

func TestAskingAddsNothing(t *testing.T) {
	x, m := index(t, 5, 2)
	x.All(9)
	x.Stream("new", 9)
	x.Query(ask("a:new / new"), 9)
	x.Version("new", 9)
	x.Since(ask("a:new / new"), 0)
	x.Clone()
	wantIndex(t, "asked", x, m)
	m = put(t, x, m, some[0])
	wantIndex(t, "asked, and added to", x, m)
}

// calls are all calls that answer records up to a position.
func calls(x *Index, upto int) []func() []api.Rec {
	return []func() []api.Rec{
		func() []api.Rec { return x.All(upto) },
		func() []api.Rec { return x.Stream("s", upto) },
		func() []api.Rec { return x.Stream("t", upto) },
		func() []api.Rec { return x.Query(ask("/"), upto) },
		func() []api.Rec { return x.Query(ask("a:x /"), upto) },
		func() []api.Rec { return x.Query(ask("/ t", "a:y /"), upto) },
	}
}

// P14.3: what is returned up to a position is the same later, and what was returned stays as it is.
func TestWhatWasAnsweredDoesNotChange(t *testing.T) {
	for n := range 10 {
		x, m := index(t, n, 3)
		for upto := -1; upto <= n; upto++ {
			var before []string
			var kept [][]api.Rec
			for _, call := range calls(x, upto) {
				kept = append(kept, call())
				before = append(before, say(call()))
			}
			version := x.Version("s", upto)
			for range 5 {
				m = put(t, x, m, some[0], some[1], some[5])
			}
			for i, call := range calls(x, upto) {
				if now := say(call()); now != before[i] || say(kept[i]) != before[i] {
					t.Fatalf("call %d up to %d was %s, is %s, and its answer %s", i, upto, before[i], now, say(kept[i]))
				}
			}
			if now := x.Version("s", upto); now != version {
				t.Fatalf("Version up to %d was %d, is %d", upto, version, now)
			}
		}
	}
}

// At each length of the records, with and without spare capacity: both copies go on with other events.
func TestClonesAreApart(t *testing.T) {
	for n := range 18 {
		for _, first := range []bool{true, false} {
			x, m := index(t, n, 16)
			c, k := x.Clone(), m
			wantIndex(t, "a clone", c, m)
			for i := range 6 {
				if (i%2 == 0) == first {
					m = put(t, x, m, ev("s", "t", "a:x c:new"), ev("new", "t", ""))
				} else {
					k = put(t, c, k, ev("t", "u", "a:y d:new"), ev("s", "u", "a:x"), ev("s", "v", ""))
				}
				wantIndex(t, "the first", x, m)
				wantIndex(t, "the clone", c, k)
			}
		}
	}
}

func TestSeveralClonesOfOne(t *testing.T) {
	for n := range 8 {
		x, m := index(t, n, 4)
		copies, tales := []*Index{x}, []tale{m}
		for range 3 {
			for i := range len(copies) {
				copies, tales = append(copies, copies[i].Clone()), append(tales, tales[i])
			}
			for i, c := range copies {
				tales[i] = put(t, c, tales[i], slices.Repeat([]api.Event{some[i%len(some)]}, i+1)...)
			}
			for i, c := range copies {
				wantIndex(t, "copy "+strconv.Itoa(i), c, tales[i])
			}
		}
	}
}

func TestCloneOfNothing(t *testing.T) {
	x := New()
	c := x.Clone()
	wantIndex(t, "the clone", c, nil)
	k := put(t, c, nil, some[0])
	wantIndex(t, "the first", x, nil)
	m := put(t, x, nil, some[1], some[2])
	wantIndex(t, "the first", x, m)
	wantIndex(t, "the clone", c, k)
}

// A refused batch changes neither copy.
func TestClonesRefuseAlike(t *testing.T) {
	x, m := index(t, 5, 2)
	c := x.Clone()
	for _, y := range []*Index{c, x} {
		wantRefused(t, "a gap", y, api.Batch{After: 6, Events: some[:1]}, api.ErrArg)
		wantRefused(t, "no event", y, api.Batch{After: 5}, api.ErrEmpty)
		wantIndex(t, "refused", x, m)
		wantIndex(t, "refused", c, m)
	}
}

// spoil writes over records and their lists, the spare capacity of each too.
func spoil(recs []api.Rec) {
	for _, r := range recs {
		spoilEvent(r.Event)
	}
	recs = recs[:cap(recs)]
	for i := range recs {
		recs[i] = api.Rec{Pos: 77, Version: 77, Event: api.Event{Stream: "spoilt"}}
	}
}

func spoilEvent(e api.Event) {
	tags, fields := e.Tags[:cap(e.Tags)], e.Fields[:cap(e.Fields)]
	for i := range tags {
		tags[i] = "spoilt:x"
	}
	for i := range fields {
		fields[i] = api.Field{Name: "spoilt", N: 77}
	}
}

func TestResultsBelongToTheCaller(t *testing.T) {
	for n := range 20 {
		x, m := index(t, n, 5)
		c, k := x.Clone(), m
		for range 2 {
			for _, y := range []*Index{x, c} {
				for _, upto := range []int{n / 2, n, 99} {
					for _, call := range calls(y, upto) {
						spoil(call())
					}
				}
			}
			wantIndex(t, "the first", x, m)
			wantIndex(t, "the clone", c, k)
			m = put(t, x, m, some[0], some[2])
			k = put(t, c, k, some[1])
		}
		for i, y := range []*Index{x, c} {
			recs, code := y.Add(api.Batch{After: y.Last(), Events: some[:6]})
			if code != api.OK {
				t.Fatalf("Add is %d", code)
			}
			spoil(recs)
			wantIndex(t, "what Add answered is spoilt", y, append([]tale{m, k}[i], some[:6]...))
		}
	}
}

// No two lists of one answer, and no two answers, share memory: each record is spoilt in turn, and the others stay.
func TestResultsShareNothing(t *testing.T) {
	x, _ := index(t, 16, 4)
	for i := range calls(x, 99) {
		for at := range len(calls(x, 99)[i]()) {
			one, other := calls(x, 99)[i](), calls(x, 99)[i]()
			want := say(other)
			rest := say(append(slices.Clone(one[:at]), one[at+1:]...))
			spoilEvent(one[at].Event)
			if got := say(append(slices.Clone(one[:at]), one[at+1:]...)); got != rest || say(other) != want {
				t.Fatalf("call %d, record %d: what remains is %s, want %s; another answer is %s", i, at, got, rest, say(other))
			}
		}
	}
}

// A batch stays as it is, its spare capacity too, and may change later without a change of the index.
func TestAddNeitherChangesNorKeepsTheBatch(t *testing.T) {
	fresh := func() []api.Event {
		var l []api.Event
		for i := range 4 {
			e := ev("s", "t", "a:x a:y left:x left:y")
			e.Tags, e.Fields = e.Tags[:i%3], e.Fields[:i%2]
			l = append(l, e)
		}
		return l
	}
	x, m := index(t, 3, 3)
	l := fresh()
	recs, code := x.Add(api.Batch{After: 3, Events: l[:3]})
	if code != api.OK {
		t.Fatalf("Add is %d", code)
	}
	for i, e := range fresh() {
		whole := func(e api.Event) api.Event {
			e.Tags, e.Fields = e.Tags[:4], e.Fields[:2]
			return e
		}
		if !event.Same(l[i], e) || !event.Same(whole(l[i]), whole(e)) {
			t.Errorf("Add changes event %d", i)
		}
	}
	want := say(recs)
	for i := range l {
		spoilEvent(l[i])
		l[i] = api.Event{Stream: "spoilt"}
	}
	m = append(m, fresh()[:3]...)
	wantIndex(t, "the batch is spoilt", x, m)
	if got := say(recs); got != want {
		t.Errorf("the answer is %s, want %s", got, want)
	}
}

func TestQueryAndSinceDoNotChangeTheQuery(t *testing.T) {
	x, _ := index(t, 16, 4)
	tags, types := words("b:x a:x left left"), words("u t left left")
	clauses := []api.Clause{{Tags: tags[:2], Types: types[:2]}, {Tags: tags[1:2]}, {Types: words("left")}}
	q := api.Query{Clauses: clauses[:2]}
	x.Query(q, 99)
	x.Since(q, 0)
	if !slices.Equal(tags, words("b:x a:x left left")) || !slices.Equal(types, words("u t left left")) {
		t.Errorf("the terms are %q and %q", tags, types)
	}
	if !query.Same(api.Query{Clauses: clauses}, ask("b:x a:x / u t", "a:x /", "/ left")) {
		t.Error("the clauses are others")
	}
}

func TestIndexesAreIndependent(t *testing.T) {
	a, m := index(t, 3, 2)
	b, k := index(t, 2, 1)
	m = put(t, a, m, some[0])
	k = put(t, b, k, some[1], some[2])
	wantIndex(t, "one", a, m)
	wantIndex(t, "the other", b, k)
}

func TestZeroValue(t *testing.T) {
	var none, zero Index
	wantIndex(t, "the zero value", &zero, nil)
	c := zero.Clone()
	wantIndex(t, "its clone", c, nil)
	put(t, c, nil, some[0])
	wantIndex(t, "the zero value", &zero, nil)
	m := put(t, &zero, nil, some[:3]...)
	wantIndex(t, "the zero value", &zero, m)
	wantIndex(t, "another zero value", &none, nil)
}

// dice throws the same numbers in each run.
type dice uint64

func (x *dice) throw(n int) int {
	*x = *x*6364136223846793005 + 1442695040888963407
	return int(uint64(*x)>>33) % n
}

// pick returns up to most of the texts, in any order.
func (x *dice) pick(texts []string, most int) []string {
	var l []string
	for range x.throw(most + 1) {
		l = append(l, texts[x.throw(len(texts))])
	}
	return l
}

func (x *dice) event() api.Event {
	names := words("s t u kunde-7")
	e := api.Event{Stream: names[x.throw(4)], Type: words("t u v w")[x.throw(4)], Tags: x.pick(words("a:x a:y b:x b:y c:z"), 5)}
	for _, name := range x.pick(names, 4) {
		e.Fields = append(e.Fields, api.Field{Name: name, N: x.throw(1000) - 500})
	}
	return event.Norm(e)
}

func (x *dice) query() api.Query {
	var q api.Query
	for range x.throw(4) {
		q.Clauses = append(q.Clauses, api.Clause{Tags: x.pick(words("a:x a:y b:x b:y c:z"), 3), Types: x.pick(words("t u v w x"), 3)})
	}
	return q
}

// Long runs of calls on some indexes and their clones.
func TestLongRuns(t *testing.T) {
	for seed := range 12 {
		x := dice(seed)
		run := "run " + strconv.Itoa(seed)
		all, tales := []*Index{New()}, []tale{nil}
		for range 30 {
			at := x.throw(len(all))
			if x.throw(8) == 0 && len(all) < 4 {
				all, tales = append(all, all[at].Clone()), append(tales, tales[at])
				continue
			}
			var l []api.Event
			for range x.throw(6) {
				l = append(l, x.event())
			}
			switch after := len(tales[at]) + x.throw(4)/3; {
			case len(l) == 0:
				wantRefused(t, run, all[at], api.Batch{After: after}, api.ErrEmpty)
			case after != len(tales[at]):
				wantRefused(t, run, all[at], api.Batch{After: after, Events: l}, api.ErrArg)
			default:
				tales[at] = put(t, all[at], tales[at], l...)
			}
			wantQuery(t, run, all[at], tales[at], x.query())
		}
		for i, y := range all {
			wantIndex(t, run, y, tales[i])
			wantNoGap(t, run, y, tales[i])
		}
	}
}

// wantNoGap is P14.3: a stream's records have the versions 1, 2, and so on, and each record is in one stream.
func wantNoGap(t *testing.T, what string, x *Index, m tale) {
	t.Helper()
	left := len(m)
	for _, name := range words("s t u kunde-7") {
		before := 0
		for i, r := range x.Stream(name, math.MaxInt) {
			if r.Version != i+1 || r.Pos <= before || r.Event.Stream != name || x.Version(name, r.Pos) != i+1 {
				t.Fatalf("%s: record %d of %q is %s", what, i+1, name, say([]api.Rec{r}))
			}
			before = r.Pos
			left--
		}
	}
	if left != 0 {
		t.Fatalf("%s: %d records are in no stream, or in two", what, left)
	}
}
