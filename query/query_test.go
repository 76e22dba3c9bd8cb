package query

import (
	"slices"
	"strconv"
	"strings"
	"testing"

	"registrar/api"
)

// good is a valid query with as many clauses and terms as there may be, and with each kind of clause.
func good() api.Query {
	tags := func() []string { return []string{"a:x", "a:y", "aa:x", "\u03bb:\u00df"} }
	types := func() []string { return []string{"_a", "a", "bestellt", "\u00f8"} }
	return api.Query{Clauses: []api.Clause{{Tags: tags(), Types: types()}, {Tags: tags()}, {Types: types()}, {Tags: tags(), Types: types()}}}
}

// changed is good with one change.
func changed(change func(q *api.Query)) api.Query {
	q := good()
	change(&q)
	return q
}

// of is a query of clauses, tagged and typed are clauses of one list.
func of(l ...api.Clause) api.Query {
	return api.Query{Clauses: l}
}

func tagged(l ...string) api.Clause {
	return api.Clause{Tags: l}
}

func typed(l ...string) api.Clause {
	return api.Clause{Types: l}
}

// tags has n valid tags in increasing order, types so many names.
func tags(n int) []string {
	var l []string
	for _, s := range types(n) {
		l = append(l, "k:"+s)
	}
	return l
}

func types(n int) []string {
	var l []string
	for i := range n {
		l = append(l, "a"+string(rune('a'+i/26))+string(rune('a'+i%26)))
	}
	return l
}

// noNames has texts that are no names.
func noNames() []string {
	return []string{"", "7", "-a", "A", "a b", "a:b", "a.b", "\u00e4", "\xff", "a\xc3", strings.Repeat("a", 25), strings.Repeat("\u03bb", 13)}
}

// noTags has texts that are no tags.
func noTags() []string {
	return []string{"", "a", ":", "a:", ":a", "a:b:c", "a;b", "a:7", "7:a", "A:b", "a: b", "a:\xff", strings.Repeat("a", 25) + ":b", "b:" + strings.Repeat("a", 25)}
}

// rows has pairs of texts that rise by their bytes; '-' stands ahead of '0', '_' and the letters, z ahead of what has several bytes.
func rows() [][2]string {
	return [][2]string{{"a", "b"}, {"a", "a-"}, {"a-", "a0"}, {"a9", "a_"}, {"_", "a"}, {"a", "aa"}, {"az", "b"}, {"z", "\u00e9"}, {"\u00df", "\u00e9"}, {"\u00f8", "\u03bb"}}
}

// say writes a query out, each text in quotes, so that two queries have the same text only if they are equal.
func say(q api.Query) string {
	s := ""
	for _, c := range q.Clauses {
		s += "[" + sayTexts(c.Tags) + "|" + sayTexts(c.Types) + "]"
	}
	return "{" + s + "}"
}

func sayTexts(l []string) string {
	s := ""
	for _, x := range l {
		s += " " + strconv.Quote(x)
	}
	return s
}

func sayEvent(e api.Event) string {
	return strconv.Quote(e.Type) + "[" + sayTexts(e.Tags) + "]"
}

// copied shares no memory with q.
func copied(q api.Query) api.Query {
	q.Clauses = slices.Clone(q.Clauses)
	for i, c := range q.Clauses {
		q.Clauses[i] = api.Clause{Tags: slices.Clone(c.Tags), Types: slices.Clone(c.Types)}
	}
	return q
}

// wipe clears all the memory of q.
func wipe(q api.Query) {
	for _, c := range q.Clauses {
		clear(c.Tags[:cap(c.Tags)])
		clear(c.Types[:cap(c.Types)])
	}
	clear(q.Clauses[:cap(q.Clauses)])
}

func wantMay(t *testing.T, q api.Query, want api.Errno) {
	t.Helper()
	if got := May(q); got != want {
		t.Errorf("May(%s) is %d, want %d", say(q), got, want)
	}
}

func wantNorm(t *testing.T, q, want api.Query) {
	t.Helper()
	if got := Norm(q); say(got) != say(want) {
		t.Errorf("Norm(%s) is %s, want %s", say(q), say(got), say(want))
	}
}

func wantMatch(t *testing.T, q api.Query, e api.Event, want bool) {
	t.Helper()
	if got := Match(q, e); got != want {
		t.Errorf("Match(%s, %s) is %v", say(q), sayEvent(e), got)
	}
}

// wantSame asks both ways round.
func wantSame(t *testing.T, a, b api.Query, want bool) {
	t.Helper()
	if Same(a, b) != want || Same(b, a) != want {
		t.Errorf("Same of %s and %s: %v, the other way round %v, want %v", say(a), say(b), Same(a, b), Same(b, a), want)
	}
}

// P6.1

func TestMayOfValidQueries(t *testing.T) {
	wantMay(t, good(), api.OK)
	wantMay(t, api.Query{}, api.OK)
	wantMay(t, of([]api.Clause{}...), api.OK)
	wantMay(t, of(api.Clause{Tags: []string{}, Types: []string{}}), api.OK)
	for n := range 5 {
		wantMay(t, of(make([]api.Clause, n)...), api.OK)
		wantMay(t, of(tagged(tags(n)...)), api.OK)
		wantMay(t, of(typed(types(n)...)), api.OK)
		wantMay(t, of(api.Clause{Tags: tags(n), Types: types(4 - n)}), api.OK)
	}
	wantMay(t, of(tagged(strings.Repeat("a", 24)+":"+strings.Repeat("\u03bb", 12))), api.OK)
	wantMay(t, of(typed(strings.Repeat("a", 24), strings.Repeat("\u03bb", 12))), api.OK)
}

func TestMayAmounts(t *testing.T) {
	for _, n := range []int{5, 6, 100, 600} {
		wantMay(t, of(make([]api.Clause, n)...), api.ErrBig)
		for i := range 4 {
			wantMay(t, changed(func(q *api.Query) { q.Clauses[i].Tags = tags(n) }), api.ErrBig)
			wantMay(t, changed(func(q *api.Query) { q.Clauses[i].Types = types(n) }), api.ErrBig)
		}
	}
	wantMay(t, of(make([]api.Clause, 1<<16)...), api.ErrBig)
	wantMay(t, of(tagged(make([]string, 1<<16)...)), api.ErrBig)
	wantMay(t, of(typed(make([]string, 1<<16)...)), api.ErrBig)
}

// Tags and Types are counted apart, and each clause on its own.
func TestMayCountsEachList(t *testing.T) {
	full := api.Clause{Tags: tags(4), Types: types(4)}
	wantMay(t, of(full, full, full, full), api.OK)
	wantMay(t, of(full, full, full, full, full), api.ErrBig)
}

// The fault stands at each place once.
func TestMayTags(t *testing.T) {
	for _, s := range noTags() {
		wantMay(t, of(tagged(s)), api.ErrName)
		for _, i := range []int{0, 1, 3} {
			for j := range 4 {
				wantMay(t, changed(func(q *api.Query) { q.Clauses[i].Tags[j] = s }), api.ErrName)
			}
		}
	}
}

func TestMayTypes(t *testing.T) {
	for _, s := range noNames() {
		wantMay(t, of(typed(s)), api.ErrName)
		for _, i := range []int{0, 2, 3} {
			for j := range 4 {
				wantMay(t, changed(func(q *api.Query) { q.Clauses[i].Types[j] = s }), api.ErrName)
			}
		}
	}
}

// A tag is no type, and a name is no tag.
func TestMayTagsAndTypesExchanged(t *testing.T) {
	wantMay(t, of(api.Clause{Tags: []string{"a:x"}, Types: []string{"a"}}), api.OK)
	wantMay(t, of(api.Clause{Tags: []string{"a"}, Types: []string{"a:x"}}), api.ErrName)
	wantMay(t, of(tagged("a")), api.ErrName)
	wantMay(t, of(typed("a:x")), api.ErrName)
}

func TestMayOrder(t *testing.T) {
	for i := range 4 {
		for j := range 3 {
			if i != 2 {
				wantMay(t, changed(func(q *api.Query) { l := q.Clauses[i].Tags; l[j] = l[j+1] }), api.ErrArg)
				wantMay(t, changed(func(q *api.Query) { l := q.Clauses[i].Tags; l[j], l[j+1] = l[j+1], l[j] }), api.ErrArg)
			}
			if i != 1 {
				wantMay(t, changed(func(q *api.Query) { l := q.Clauses[i].Types; l[j] = l[j+1] }), api.ErrArg)
				wantMay(t, changed(func(q *api.Query) { l := q.Clauses[i].Types; l[j], l[j+1] = l[j+1], l[j] }), api.ErrArg)
			}
		}
	}
	wantMay(t, of(tagged("a:x", "b:x", "a:x")), api.ErrArg)
	wantMay(t, of(typed("a", "b", "a")), api.ErrArg)
}

func TestMayOrderByBytes(t *testing.T) {
	for _, l := range rows() {
		wantMay(t, of(typed(l[0], l[1])), api.OK)
		wantMay(t, of(typed(l[1], l[0])), api.ErrArg)
		wantMay(t, of(tagged("k:"+l[0], "k:"+l[1])), api.OK)
		wantMay(t, of(tagged("k:"+l[1], "k:"+l[0])), api.ErrArg)
	}
	// A tag is one text here: what follows ':' has its part, and '-' and the digits stand ahead of ':'.
	for _, l := range [][2]string{{"a-b:x", "a:x"}, {"a0:x", "a:x"}, {"a:x", "a_:x"}, {"a:z", "aa:b"}} {
		wantMay(t, of(tagged(l[0], l[1])), api.OK)
		wantMay(t, of(tagged(l[1], l[0])), api.ErrArg)
	}
}

// Clauses have no order among themselves: they may be equal, or fall.
func TestMayOrderOfClauses(t *testing.T) {
	wantMay(t, of(tagged("b:x"), tagged("a:x"), tagged("b:x"), api.Clause{}), api.OK)
	wantMay(t, of(typed("b"), typed("a"), typed("b"), typed("b")), api.OK)
}

// R3: of two faults the one that the chapter names first is told, in whichever clause and list each of them stands.
func TestMayTellsTheFirstError(t *testing.T) {
	type change = func(q *api.Query)
	big := []change{func(q *api.Query) { q.Clauses = append(q.Clauses, api.Clause{}) }}
	var noName, noArg []change
	for _, i := range []int{0, 3} {
		big = append(big, func(q *api.Query) { q.Clauses[i].Tags = append(q.Clauses[i].Tags, "\u03bb:\u03bb") })
		big = append(big, func(q *api.Query) { q.Clauses[i].Types = append(q.Clauses[i].Types, "\u03bb") })
		noName = append(noName, func(q *api.Query) { q.Clauses[i].Tags[3] = "\u03bb" })
		noName = append(noName, func(q *api.Query) { q.Clauses[i].Types[0] = "" })
		noArg = append(noArg, func(q *api.Query) { q.Clauses[i].Tags[1] = q.Clauses[i].Tags[0] })
		noArg = append(noArg, func(q *api.Query) { q.Clauses[i].Types[2] = q.Clauses[i].Types[1] })
	}
	order := []struct {
		faults []change
		want   api.Errno
	}{{big, api.ErrBig}, {noName, api.ErrName}, {noArg, api.ErrArg}}
	for i, first := range order {
		for _, fault := range first.faults {
			wantMay(t, changed(fault), first.want)
			for _, later := range order[i:] {
				for _, also := range later.faults {
					wantMay(t, changed(func(q *api.Query) { also(q); fault(q) }), first.want)
				}
			}
		}
	}
}

// P6.2: Match

// sets has each part of l, in its order.
func sets(l []string) [][]string {
	var out [][]string
	for bits := range 1 << len(l) {
		var part []string
		for i, s := range l {
			if bits>>i&1 == 1 {
				part = append(part, s)
			}
		}
		out = append(out, part)
	}
	return out
}

// events has an event for each part of three tags and each of three types; one type stands in no clause.
func events() []api.Event {
	var l []api.Event
	for _, tags := range sets([]string{"a:x", "a:y", "b:x"}) {
		for _, kind := range []string{"t", "u", "v"} {
			l = append(l, api.Event{Stream: "s", Type: kind, Tags: tags})
		}
	}
	return l
}

// clauses has a clause for each part of three tags and each part of two types.
func clauses() []api.Clause {
	var l []api.Clause
	for _, tags := range sets([]string{"a:x", "a:y", "b:x"}) {
		for _, types := range sets([]string{"t", "u"}) {
			l = append(l, api.Clause{Tags: tags, Types: types})
		}
	}
	return l
}

// holds is a clause as P6.2 words it, by counting.
func holds(c api.Clause, e api.Event) bool {
	tags, types := 0, 0
	for _, tag := range c.Tags {
		for _, has := range e.Tags {
			if tag == has {
				tags++
				break
			}
		}
	}
	for _, kind := range c.Types {
		if kind == e.Type {
			types++
		}
	}
	return tags == len(c.Tags) && (types > 0 || len(c.Types) == 0)
}

func TestMatchExamples(t *testing.T) {
	for _, e := range append(events(), api.Event{}) {
		wantMatch(t, api.Query{}, e, false)
		wantMatch(t, of([]api.Clause{}...), e, false)
		wantMatch(t, of(api.Clause{}), e, true)
		wantMatch(t, of(api.Clause{Tags: []string{}, Types: []string{}}), e, true)
	}
	e := api.Event{Stream: "s", Type: "t", Tags: []string{"a:x", "b:y"}, Fields: []api.Field{{Name: "n", N: 1}}}
	for _, c := range []struct {
		clause api.Clause
		want   bool
	}{
		{tagged("a:x"), true}, {tagged("b:y"), true}, {tagged("a:x", "b:y"), true},
		{tagged("a:y"), false}, {tagged("a:x", "a:y"), false}, {tagged("a:x", "b:y", "c:z"), false},
		{typed("t"), true}, {typed("a", "t", "z"), true}, {typed("z", "t"), true}, {typed("t", "z"), true},
		{typed("u"), false}, {typed("a", "z"), false}, {typed("tt"), false}, {typed("T"), false},
		{api.Clause{Tags: []string{"a:x"}, Types: []string{"t"}}, true},
		{api.Clause{Tags: []string{"a:x"}, Types: []string{"u"}}, false},
		{api.Clause{Tags: []string{"c:x"}, Types: []string{"t"}}, false},
		{typed("s"), false}, {typed("n"), false}, {tagged("a"), false}, {tagged("a:"), false}, {tagged("a:x "), false},
	} {
		wantMatch(t, of(c.clause), e, c.want)
	}
}

func TestMatchOfOneClause(t *testing.T) {
	for _, c := range clauses() {
		for _, e := range events() {
			wantMatch(t, of(c), e, holds(c, e))
		}
	}
}

// Two clauses: one that is true is enough, and a clause takes nothing from the other one.
func TestMatchOfTwoClauses(t *testing.T) {
	for _, c := range clauses() {
		for _, d := range clauses() {
			for _, e := range events() {
				if got := Match(of(c, d), e); got != (holds(c, e) || holds(d, e)) {
					t.Fatalf("Match(%s, %s) is %v", say(of(c, d)), sayEvent(e), got)
				}
			}
		}
	}
}

// The one clause that is true stands at each place.
func TestMatchOfManyClauses(t *testing.T) {
	e := api.Event{Stream: "s", Type: "t", Tags: []string{"a:x"}}
	for _, n := range []int{1, 4, 5, 100} {
		l := make([]api.Clause, n)
		for i := range l {
			l[i] = api.Clause{Tags: []string{"a:x"}, Types: []string{"u"}}
		}
		wantMatch(t, of(l...), e, false)
		for i := range l {
			l[i].Types[0] = "t"
			wantMatch(t, of(l...), e, true)
			l[i].Types[0] = "u"
		}
	}
}

// Neither the query nor the event needs to be valid: out of order, twice, too many, no names.
func TestMatchOfWhatIsNotValid(t *testing.T) {
	e := api.Event{Type: "T t", Tags: []string{"c:x", "a", "b:x", "a", "", "\xff"}}
	for _, c := range []struct {
		clause api.Clause
		want   bool
	}{
		{tagged("\xff", "", "a", "b:x", "c:x"), true}, {tagged("a", "a", "a"), true}, {tagged(""), true}, {tagged("\xfe"), false},
		{tagged("a", "a:"), false}, {tagged("c:x", "b:x", "b:x", "d:x"), false},
		{typed("z", "T t", "a"), true}, {typed("T t", "T t"), true}, {typed(""), false}, {typed("T", "t"), false},
	} {
		wantMatch(t, of(c.clause), e, c.want)
	}
	wantMatch(t, of(typed("")), api.Event{}, true)
	wantMatch(t, of(tagged("")), api.Event{}, false)
	many := api.Event{Type: types(600)[599], Tags: tags(600)}
	wantMatch(t, of(api.Clause{Tags: tags(600), Types: types(600)}), many, true)
	wantMatch(t, of(api.Clause{Tags: tags(600), Types: types(599)}), many, false)
	wantMatch(t, of(api.Clause{Tags: tags(601), Types: types(600)}), many, false)
}

// P6.2: Norm

func TestNormTexts(t *testing.T) {
	for _, c := range []struct{ l, want []string }{
		{nil, nil},
		{[]string{}, nil},
		{[]string{"a"}, []string{"a"}},
		{[]string{"a", "a", "a"}, []string{"a"}},
		{[]string{"c", "b", "a"}, []string{"a", "b", "c"}},
		{[]string{"a", "b", "a", "b", "a-"}, []string{"a", "a-", "b"}},
		{[]string{"\u00e9:x", "a_:x", "a:x", "z:x", "a-b:x", "a0:x"}, []string{"a-b:x", "a0:x", "a:x", "a_:x", "z:x", "\u00e9:x"}},
		{[]string{"b", "", "\xff", "A", "a", "", "\x00"}, []string{"", "\x00", "A", "a", "b", "\xff"}}, // it checks nothing
	} {
		wantNorm(t, of(tagged(c.l...)), of(tagged(c.want...)))
		wantNorm(t, of(typed(c.l...)), of(typed(c.want...)))
		wantNorm(t, of(api.Clause{Tags: c.l, Types: types(2)}), of(api.Clause{Tags: c.want, Types: types(2)}))
	}
	back := tags(600)
	slices.Reverse(back)
	wantNorm(t, of(tagged(append(back, back...)...)), of(tagged(tags(600)...)))
}

// The clauses remain: their order, the equal ones, and those that say nothing.
func TestNormLeavesTheClauses(t *testing.T) {
	wantNorm(t, good(), good())
	wantNorm(t, api.Query{}, api.Query{})
	wantNorm(t, of([]api.Clause{}...), api.Query{})
	for n := range 7 {
		wantNorm(t, of(make([]api.Clause, n)...), of(make([]api.Clause, n)...))
	}
	wantNorm(t,
		of(tagged("b:x", "a:x"), api.Clause{}, typed("u", "t", "u"), tagged("a:x", "b:x"), typed("a"), tagged("a:x")),
		of(tagged("a:x", "b:x"), api.Clause{}, typed("t", "u"), tagged("a:x", "b:x"), typed("a"), tagged("a:x")))
	// What is in one list stays there, whatever is in the other one and in other clauses.
	wantNorm(t,
		of(api.Clause{Tags: []string{"b", "a"}, Types: []string{"c", "a"}}, api.Clause{Tags: []string{"c", "c"}, Types: []string{"b", "b"}}),
		of(api.Clause{Tags: []string{"a", "b"}, Types: []string{"a", "c"}}, api.Clause{Tags: []string{"c"}, Types: []string{"b"}}))
}

// What is too much ahead of Norm need not be afterwards, and Norm takes nothing away for being too much.
func TestNormAndMay(t *testing.T) {
	twice := func(l []string) []string { return append(slices.Clone(l), l...) }
	q := of(api.Clause{Tags: twice(tags(4)), Types: twice(types(4))})
	wantMay(t, q, api.ErrBig)
	wantMay(t, Norm(q), api.OK)
	wantMay(t, Norm(of(tagged(twice(tags(5))...))), api.ErrBig)
	wantMay(t, Norm(of(typed(twice(types(5))...))), api.ErrBig)
	wantMay(t, Norm(of(make([]api.Clause, 5)...)), api.ErrBig)
	wantMay(t, Norm(of(tagged("b:x", "a"))), api.ErrName)
	wantMay(t, Norm(of(tagged("b:x", "a:x"), typed("b", "a", "b"))), api.OK)
}

// R7: neither the lists nor what lies behind them changes.
func TestArgumentsAreLeft(t *testing.T) {
	tags := []string{"b:x", "a:y", "b:x", "spare", "spare"}
	types := []string{"u", "t", "u", "spare", "spare"}
	l := []api.Clause{{Tags: tags, Types: types}, {Tags: []string{"spare"}}}
	was := say(of(l...))
	q := of(l[:1]...)
	q.Clauses[0] = api.Clause{Tags: tags[:3], Types: types[:3]}
	e := api.Event{Type: "t", Tags: tags[:3]}
	May(q)
	Norm(q)
	Match(q, e)
	Same(q, q)
	q.Clauses[0] = api.Clause{Tags: tags, Types: types}
	if now := say(of(l...)); now != was {
		t.Errorf("it became %s, was %s", now, was)
	}
}

func TestNormAnswersNewMemory(t *testing.T) {
	q := good()
	first, second := Norm(q), Norm(q)
	wipe(q)
	wipe(second)
	if say(first) != say(good()) {
		t.Errorf("what was answered became %s", say(first))
	}
	wipe(first)
	if third := Norm(good()); say(third) != say(good()) {
		t.Errorf("what is answered later is %s", say(third))
	}
}

// No two lists of one answer share memory, though those of the argument do.
func TestNormSharesNothingWithin(t *testing.T) {
	l := []string{"b:x", "a:x", "b:x"}
	c := api.Clause{Tags: l, Types: l}
	want := say(of(tagged("a:x", "b:x")))
	for i := range 8 {
		q := Norm(of(c, c, c, c))
		var kept []string
		for k, d := range q.Clauses {
			for m, list := range [][]string{d.Tags, d.Types} {
				if 2*k+m == i {
					kept = list
					continue
				}
				clear(list[:cap(list)])
			}
		}
		if got := say(of(tagged(kept...))); got != want {
			t.Errorf("list %d became %s", i, got)
		}
	}
}

// P6.2: Same

func TestSameOfEqualQueries(t *testing.T) {
	for _, q := range []api.Query{good(), {}, of(api.Clause{}), of(tagged("b:x", "a:y", "b:x"), typed("", "\xff", "")), of(make([]api.Clause, 9)...)} {
		wantSame(t, q, copied(q), true)
	}
	wantSame(t, api.Query{}, of([]api.Clause{}...), true)
	wantSame(t, of(api.Clause{}), of(api.Clause{Tags: []string{}, Types: []string{}}), true)
}

func TestSameOfOneDifference(t *testing.T) {
	for _, change := range []func(q *api.Query){
		func(q *api.Query) { q.Clauses = nil },
		func(q *api.Query) { q.Clauses = q.Clauses[:3] },
		func(q *api.Query) { q.Clauses = q.Clauses[1:] },
		func(q *api.Query) { q.Clauses = append(q.Clauses, q.Clauses[3]) },
		func(q *api.Query) { q.Clauses = append(q.Clauses, api.Clause{}) },
		func(q *api.Query) { q.Clauses[0], q.Clauses[1] = q.Clauses[1], q.Clauses[0] },
		func(q *api.Query) { q.Clauses[2], q.Clauses[3] = q.Clauses[3], q.Clauses[2] },
		func(q *api.Query) { q.Clauses[0] = api.Clause{} },
		func(q *api.Query) { q.Clauses[0].Tags = nil },
		func(q *api.Query) { q.Clauses[3].Types = nil },
		func(q *api.Query) { q.Clauses[1].Types = []string{"a"} },
		func(q *api.Query) { q.Clauses[2].Tags = []string{"a:x"} },
		func(q *api.Query) { q.Clauses[0].Tags = q.Clauses[0].Tags[:3] },
		func(q *api.Query) { q.Clauses[3].Types = q.Clauses[3].Types[1:] },
		func(q *api.Query) { q.Clauses[3].Tags = append(q.Clauses[3].Tags, "\u03bb:\u00df") },
		func(q *api.Query) { q.Clauses[0].Types = append(q.Clauses[0].Types, "\u00f8") },
		func(q *api.Query) { l := q.Clauses[0].Tags; l[0], l[1] = l[1], l[0] },
		func(q *api.Query) { l := q.Clauses[3].Types; l[2], l[3] = l[3], l[2] },
		func(q *api.Query) { q.Clauses[0].Tags[0] = "" },
		func(q *api.Query) { q.Clauses[3].Tags[3] = "\u03bb:\u00e9" },
		func(q *api.Query) { q.Clauses[0].Types[0] = "_b" },
		func(q *api.Query) { q.Clauses[3].Types[3] = "o" },
		func(q *api.Query) { c := &q.Clauses[0]; c.Tags, c.Types = c.Types, c.Tags },
		func(q *api.Query) { c := &q.Clauses[1]; c.Tags, c.Types = c.Types, c.Tags },
	} {
		wantSame(t, good(), changed(change), false)
	}
	wantSame(t, api.Query{}, of(api.Clause{}), false)
	wantSame(t, of(tagged("a:b", "c:d")), of(tagged("a:bc", ":d")), false)
	wantSame(t, of(tagged("a"), tagged("b")), of(tagged("a", "b")), false)
	wantSame(t, of(tagged("a")), of(typed("a")), false)
	wantSame(t, of(tagged("a"), tagged("a")), of(tagged("a")), false)
}

// What matches the same events is not the same for that.
func TestSameIsNotMatch(t *testing.T) {
	wantSame(t, of(tagged("b:x", "a:y")), Norm(of(tagged("b:x", "a:y"))), false)
	wantSame(t, of(typed("t", "t")), of(typed("t")), false)
	wantSame(t, of(typed("t", "u")), of(typed("t"), typed("u")), false)
	wantSame(t, of(api.Clause{}, tagged("a:x")), of(api.Clause{}), false)
}

// P6.3

// random answers numbers from 0 to n - 1, the same ones each time.
func random() func(n int) int {
	x := uint64(1)
	return func(n int) int {
		x = x*6364136223846793005 + 1442695040888963407
		return int(x>>33) % n
	}
}

// jumbles has queries of few texts, so that they meet often; only some of them are names and tags.
func jumbles() []api.Query {
	someTags := []string{"a:x", "b:x", "a:y", "\u00e9:x", "a-b:x", "a", "", "\xff"}
	someTypes := []string{"t", "u", "_", "\u03bb", "t-", "7", "", "\xff"}
	next := random()
	var l []api.Query
	for range 3000 {
		q := api.Query{}
		width := 3 + 5*next(2)
		for range next(6) {
			var c api.Clause
			for range next(6) {
				c.Tags = append(c.Tags, someTags[next(width)])
			}
			for range next(6) {
				c.Types = append(c.Types, someTypes[next(width)])
			}
			q.Clauses = append(q.Clauses, c)
		}
		l = append(l, q)
	}
	return l
}

// normByRule says again what Norm is, without sorting: what is put in goes behind all that is less.
func normByRule(q api.Query) api.Query {
	var out api.Query
	for _, c := range q.Clauses {
		out.Clauses = append(out.Clauses, api.Clause{Tags: insertAll(c.Tags), Types: insertAll(c.Types)})
	}
	return out
}

func insertAll(l []string) []string {
	var out []string
	for _, s := range l {
		i := 0
		for i < len(out) && out[i] < s {
			i++
		}
		if i == len(out) || out[i] != s {
			out = slices.Insert(out, i, s)
		}
	}
	return out
}

// asked has events for the jumbles.
func asked() []api.Event {
	l := append(events(), api.Event{}, api.Event{Type: "\u03bb", Tags: []string{"b:x", "a", "\xff", ""}})
	for _, kind := range []string{"t", "_", "\u03bb", ""} {
		l = append(l, api.Event{Type: kind, Tags: []string{"a", "a-b:x", "a:x", "a:y", "b:x", "\u00e9:x", "", "\xff"}})
	}
	return l
}

func TestNormByRule(t *testing.T) {
	for _, q := range jumbles() {
		wantNorm(t, q, normByRule(q))
		wantNorm(t, normByRule(q), normByRule(q))
		wantSame(t, q, normByRule(q), say(q) == say(normByRule(q)))
	}
}

func TestNormMatchesTheSameEvents(t *testing.T) {
	yes, no := 0, 0
	for _, q := range jumbles() {
		once := Norm(q)
		for _, e := range asked() {
			wantMatch(t, once, e, Match(q, e))
			if Match(q, e) {
				yes++
			} else {
				no++
			}
		}
	}
	if yes < 1000 || no < 1000 {
		t.Errorf("only %d matched and %d did not", yes, no)
	}
}

// What matched matches still, wherever the clause is put in; what matches newly is what the clause is true for.
func TestOneMoreClause(t *testing.T) {
	added, next := clauses(), random()
	for _, q := range jumbles() {
		c := added[next(len(added))]
		for i := range len(q.Clauses) + 1 {
			more := of(slices.Insert(slices.Clone(q.Clauses), i, c)...)
			for _, e := range asked() {
				wantMatch(t, more, e, Match(q, e) || holds(c, e))
			}
		}
	}
}

// What did not match does not match with one tag more, in whichever clause.
func TestOneMoreTag(t *testing.T) {
	fewer := 0
	for _, q := range jumbles() {
		for i := range q.Clauses {
			for _, tag := range []string{"a:x", "b:x", "\xff"} {
				less := copied(q)
				less.Clauses[i].Tags = append(less.Clauses[i].Tags, tag)
				for _, e := range asked() {
					was, is := Match(q, e), Match(less, e)
					if is && !was {
						t.Fatalf("%s matches %s, but %s does not", say(less), sayEvent(e), say(q))
					}
					if was && !is {
						fewer++
					}
				}
			}
		}
	}
	if fewer < 1000 {
		t.Errorf("a tag more made only %d events not match", fewer)
	}
}

// mayByRule says again what May is for the jumbles: each list is asked for all errors, and the first one of the chapter counts.
// Of their texts, "\xff", the empty one and "a" are no tags, and "\xff", the empty one and "7" are no names.
func mayByRule(q api.Query) api.Errno {
	found := map[api.Errno]bool{api.ErrBig: len(q.Clauses) > 4}
	ask := func(l []string, wrong ...string) {
		found[api.ErrBig] = found[api.ErrBig] || len(l) > 4
		found[api.ErrArg] = found[api.ErrArg] || !slices.Equal(l, insertAll(l))
		for _, s := range wrong {
			found[api.ErrName] = found[api.ErrName] || slices.Contains(l, s)
		}
	}
	for _, c := range q.Clauses {
		ask(c.Tags, "\xff", "", "a")
		ask(c.Types, "\xff", "", "7")
	}
	for _, code := range []api.Errno{api.ErrBig, api.ErrName, api.ErrArg} {
		if found[code] {
			return code
		}
	}
	return api.OK
}

func TestMayByRule(t *testing.T) {
	var seen [6]int
	for _, q := range jumbles() {
		want := mayByRule(q)
		wantMay(t, q, want)
		seen[want]++
	}
	for _, code := range []api.Errno{api.OK, api.ErrBig, api.ErrName, api.ErrArg} {
		if seen[code] < 50 {
			t.Errorf("only %d queries have %d", seen[code], code)
		}
	}
}

func FuzzQuery(f *testing.F) {
	f.Add("b:x", "a:y", "b:x", "t", "u", "t", "t")
	f.Add("", "a", "\xff", "", "7", "A", "")
	f.Fuzz(func(t *testing.T, tag1, tag2, tag3, type1, type2, type3, kind string) {
		q := of(api.Clause{Tags: []string{tag1, tag2, tag1}, Types: []string{type1, type2, type1}}, typed(type3, type3), tagged(tag3))
		once := normByRule(q)
		wantNorm(t, q, once)
		wantNorm(t, once, once)
		wantSame(t, q, once, false)
		for _, e := range []api.Event{{Type: kind}, {Type: type2, Tags: []string{tag2, tag1}}, {Type: kind, Tags: []string{tag3}}, {Type: type3}} {
			wantMatch(t, q, e, holds(q.Clauses[0], e) || holds(q.Clauses[1], e) || holds(q.Clauses[2], e))
			wantMatch(t, once, e, Match(q, e))
		}
		if code := May(once); code != api.OK && code != api.ErrName {
			t.Errorf("May(%s) is %d", say(once), code)
		}
		if code := May(q); code != api.ErrName && code != api.ErrArg {
			t.Errorf("May(%s) is %d", say(q), code)
		}
	})
}
