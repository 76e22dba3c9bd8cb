package fold

import (
	"maps"
	"math"
	"math/big"
	"slices"
	"strconv"
	"strings"
	"testing"

	"registrar/api"
	"registrar/event"
	"registrar/qcode"
	"registrar/query"
)

// words makes a list of texts of one with blanks between.
func words(s string) []string { return strings.Fields(s) }

// ask makes a query of its clauses, each one tags / types.
func ask(clauses ...string) api.Query {
	var q api.Query
	for _, c := range clauses {
		tags, types, _ := strings.Cut(c, "/")
		q.Clauses = append(q.Clauses, api.Clause{Tags: words(tags), Types: words(types)})
	}
	return q
}

// fields makes fields of a text such as n=5 m=-2.
func fields(s string) []api.Field {
	var l []api.Field
	for _, word := range words(s) {
		name, digits, _ := strings.Cut(word, "=")
		n, err := strconv.Atoi(digits)
		if err != nil {
			panic(word)
		}
		l = append(l, api.Field{Name: name, N: n})
	}
	return l
}

// rec makes a record of the type t, whose position and version tell nothing.
func rec(stream, tags, nums string) api.Rec { return of("t", stream, tags, nums) }

func of(kind, stream, tags, nums string) api.Rec {
	return api.Rec{Pos: 9, Version: 5, Event: api.Event{Stream: stream, Type: kind, Tags: words(tags), Fields: fields(nums)}}
}

// ent makes entries of their keys and numbers, in turn.
func ent(l ...any) []api.Entry {
	var out []api.Entry
	for i := 0; i < len(l); i += 2 {
		out = append(out, api.Entry{Key: l[i].(string), N: l[i+1].(int)})
	}
	return out
}

func say(l []api.Entry) string {
	s := ""
	for _, e := range l {
		s += " " + strconv.Quote(e.Key) + "=" + strconv.Itoa(e.N)
	}
	return "[" + strings.TrimSpace(s) + "]"
}

func sayDef(d api.Def) string {
	s := strconv.Itoa(d.Kind) + " of " + strconv.Quote(d.Field)
	for _, c := range d.Query.Clauses {
		s += " (" + strings.Join(c.Tags, " ") + " / " + strings.Join(c.Types, " ") + ")"
	}
	return s
}

func sayRec(r api.Rec) string {
	s := r.Event.Stream + "," + r.Event.Type + "," + strings.Join(r.Event.Tags, "+")
	for _, f := range r.Event.Fields {
		s += "," + f.Name + strconv.Itoa(f.N)
	}
	return s
}

// tale is what a state was told: what was loaded at last, and the records since then that it took.
type tale struct {
	def  api.Def
	base []api.Entry
	recs []api.Rec
}

// entry is what the number of a key comes to, and whether it has one: counted anew, from the base on.
func (m tale) entry(key string) (*big.Int, bool) {
	n, has := new(big.Int), false
	for _, e := range m.base {
		if e.Key == key {
			n, has = big.NewInt(int64(e.N)), true
		}
	}
	for _, r := range m.recs {
		if !query.Match(m.def.Query, r.Event) {
			continue
		}
		value, ok := event.Value(r.Event, m.def.Field)
		switch {
		case m.def.Kind == api.Count && key == "":
			n.Add(n, big.NewInt(1))
		case m.def.Kind == api.Sum && key == "" && ok:
			n.Add(n, big.NewInt(int64(value)))
		case m.def.Kind == api.Latest && key == r.Event.Stream && ok:
			n, has = big.NewInt(int64(value)), true
		case m.def.Kind == api.Members:
			for _, tag := range r.Event.Tags {
				if key == tag+" "+r.Event.Stream {
					n.Add(n, big.NewInt(1))
				}
			}
		}
	}
	return n, has && m.def.Kind == api.Latest || n.Sign() != 0
}

// entries asks for each key that may have a number.
func (m tale) entries() []api.Entry {
	keys := map[string]bool{"": true}
	for _, e := range m.base {
		keys[e.Key] = true
	}
	for _, r := range m.recs {
		keys[r.Event.Stream] = true
		for _, tag := range r.Event.Tags {
			keys[tag+" "+r.Event.Stream] = true
		}
	}
	var l []api.Entry
	for _, key := range slices.Sorted(maps.Keys(keys)) {
		if n, has := m.entry(key); has {
			l = append(l, api.Entry{Key: key, N: int(n.Int64())})
		}
	}
	return l
}

// takes reports whether r does not make a Sum go over.
func (m tale) takes(r api.Rec) bool {
	n, _ := tale{def: m.def, base: m.base, recs: append(slices.Clip(m.recs), r)}.entry("")
	return m.def.Kind != api.Sum || n.CmpAbs(big.NewInt(api.MaxSum)) <= 0
}

func (m tale) with(l ...api.Rec) tale {
	m.recs = append(slices.Clip(m.recs), l...)
	return m
}

// start returns a state of a definition, and its tale.
func start(t *testing.T, d api.Def) (*State, tale) {
	t.Helper()
	s, code := New(d)
	if code != api.OK || s == nil {
		t.Fatalf("New of %s is %v, %d", sayDef(d), s, code)
	}
	return s, tale{def: d}
}

func wantEntries(t *testing.T, what string, s *State, want []api.Entry) {
	t.Helper()
	if got := s.Entries(); !slices.Equal(got, want) {
		t.Fatalf("%s: Entries are %s, want %s", what, say(got), say(want))
	}
}

// step folds records, holds each answer against the tale, and all entries after each one.
func step(t *testing.T, s *State, m tale, l ...api.Rec) tale {
	t.Helper()
	for _, r := range l {
		what := sayDef(m.def) + ": Step of " + sayRec(r)
		want := api.ErrOver
		if m.takes(r) {
			m, want = m.with(r), api.OK
		}
		if code := s.Step(r); code != want {
			t.Fatalf("%s is %d, want %d", what, code, want)
		}
		wantEntries(t, what, s, m.entries())
	}
	return m
}

func load(t *testing.T, s *State, m tale, l []api.Entry) tale {
	t.Helper()
	if code := s.Load(l); code != api.OK {
		t.Fatalf("%s: Load of %s is %d, want OK", sayDef(m.def), say(l), code)
	}
	wantEntries(t, sayDef(m.def)+": Load", s, l)
	return tale{def: m.def, base: slices.Clone(l)}
}

// defs are of all kinds, each with several queries.
func defs() []api.Def {
	var l []api.Def
	for _, q := range []api.Query{ask("/"), ask(), ask("a:x /"), ask("/ t"), ask("a:x / t u", "a:y /"), ask("a:none /", "/ u")} {
		l = append(l, api.Def{Kind: api.Count, Query: q}, api.Def{Kind: api.Members, Query: q})
		l = append(l, api.Def{Kind: api.Sum, Field: "n", Query: q}, api.Def{Kind: api.Latest, Field: "n", Query: q})
		l = append(l, api.Def{Kind: api.Sum, Field: "kunde-7", Query: q}, api.Def{Kind: api.Latest, Field: "m", Query: q})
	}
	return l
}

// four is one definition of each kind, for all events.
func four() []api.Def { return defs()[:4] }

// some are valid records with which all of the definitions above do something.
func some() []api.Rec {
	return []api.Rec{
		of("t", "s", "a:x", "n=5"), of("u", "t", "a:x a:y", "m=-2 n=3"), of("t", "s", "", ""), of("v", "u", "a:y b:x", "n=-8"),
		of("t", "t", "b:x", "kunde-7=4 m=9"), of("u", "s", "a:x b:x", "n=0"), of("t", "u", "a:x", "kunde-7=-4 m=0 n=1"),
		of("w", "s", "c:z", "n=7"), of("t", "kunde-7", "a:x a:y b:x b:y c:x c:z", "kunde-7=1 l=2 m=3 n=-8"),
	}
}

// row has records, and the entries that a definition makes of them, told by hand.
type row struct {
	name string
	recs []api.Rec
	want []api.Entry
}

func wantRows(t *testing.T, d api.Def, rows []row) {
	t.Helper()
	for _, r := range rows {
		s, m := start(t, d)
		step(t, s, m, r.recs...)
		wantEntries(t, r.name, s, r.want)
	}
}

// The chapter's example.
func TestExample(t *testing.T) {
	s, _ := start(t, api.Def{Kind: api.Sum, Field: "n", Query: ask("/")})
	for _, r := range []api.Rec{rec("s", "", "n=5"), rec("s", "", ""), rec("s", "", "n=-2")} {
		if code := s.Step(r); code != api.OK {
			t.Fatalf("Step of %s is %d", sayRec(r), code)
		}
	}
	wantEntries(t, "the example", s, ent("", 3))
}

func TestNewHasNoEntries(t *testing.T) {
	for _, d := range defs() {
		s, _ := start(t, d)
		if l := s.Entries(); len(l) != 0 {
			t.Errorf("%s: a new state has %s", sayDef(d), say(l))
		}
	}
}

// New's error is that of qcode.MayDef.
func TestNewOfWrongDefinitions(t *testing.T) {
	five := ask("/", "/", "/", "/", "/")
	rows := []struct {
		d    api.Def
		want api.Errno
	}{
		{api.Def{}, api.ErrArg}, {api.Def{Kind: -1}, api.ErrArg}, {api.Def{Kind: 5}, api.ErrArg},
		{api.Def{Kind: math.MinInt}, api.ErrArg}, {api.Def{Kind: math.MaxInt}, api.ErrArg},
		{api.Def{Kind: 5, Query: five}, api.ErrArg}, {api.Def{Kind: 0, Field: "n", Query: ask("A /")}, api.ErrArg},
		{api.Def{Kind: api.Count, Query: five}, api.ErrBig}, {api.Def{Kind: api.Sum, Query: five}, api.ErrBig},
		{api.Def{Kind: api.Count, Field: "n", Query: ask("/ a b c d e")}, api.ErrBig},
		{api.Def{Kind: api.Count, Query: ask("a /")}, api.ErrName}, {api.Def{Kind: api.Members, Query: ask("/ T")}, api.ErrName},
		{api.Def{Kind: api.Count, Query: ask("b:x a:x /")}, api.ErrArg}, {api.Def{Kind: api.Sum, Query: ask("/ t t")}, api.ErrArg},
		{api.Def{Kind: api.Count, Field: "n", Query: ask("/")}, api.ErrName}, {api.Def{Kind: api.Members, Field: "n"}, api.ErrName},
		{api.Def{Kind: api.Sum}, api.ErrName}, {api.Def{Kind: api.Latest}, api.ErrName}, {api.Def{Kind: api.Sum, Field: "N"}, api.ErrName},
		{api.Def{Kind: api.Latest, Field: "7"}, api.ErrName}, {api.Def{Kind: api.Latest, Field: strings.Repeat("n", 25)}, api.ErrName},
	}
	for _, r := range rows {
		if may := qcode.MayDef(r.d); may != r.want {
			t.Fatalf("MayDef of %s is %d", sayDef(r.d), may)
		}
		if s, code := New(r.d); code != r.want || s != nil {
			t.Errorf("New of %s is %v, %d, want %d", sayDef(r.d), s, code, r.want)
		}
	}
}

// A Count counts events, whatever they have, and each one once.
func TestCount(t *testing.T) {
	wantRows(t, api.Def{Kind: api.Count, Query: ask("/")}, []row{
		{"nothing", nil, nil},
		{"one", []api.Rec{rec("s", "", "")}, ent("", 1)},
		{"the same one again", []api.Rec{rec("s", "a:x", "n=1"), rec("s", "a:x", "n=1")}, ent("", 2)},
		{"of several streams", []api.Rec{rec("s", "a:x a:y", "m=1 n=9"), rec("t", "", ""), of("u", "u", "b:x", "n=-7")}, ent("", 3)},
		{"no event", []api.Rec{{}}, ent("", 1)},
	})
	wantRows(t, api.Def{Kind: api.Count, Query: ask("a:x / t", "/ u")}, []row{
		{"no such", []api.Rec{rec("s", "", ""), of("v", "s", "a:x", "")}, nil},
		{"by both clauses, once", []api.Rec{of("u", "s", "a:x", "")}, ent("", 1)},
		{"some", []api.Rec{rec("s", "a:x", ""), rec("s", "a:y", ""), of("u", "t", "", ""), of("t", "t", "a:x b:x", "")}, ent("", 3)},
	})
}

func TestSum(t *testing.T) {
	wantRows(t, api.Def{Kind: api.Sum, Field: "n", Query: ask("/")}, []row{
		{"nothing", nil, nil},
		{"one", []api.Rec{rec("s", "", "n=5")}, ent("", 5)},
		{"below 0", []api.Rec{rec("s", "", "n=-5"), rec("s", "", "n=-1")}, ent("", -6)},
		{"no such field", []api.Rec{rec("s", "n:n", "m=5"), rec("n", "", "")}, nil},
		{"a field of 0", []api.Rec{rec("s", "", "n=0")}, nil},
		{"one that comes to 0", []api.Rec{rec("s", "", "n=5"), rec("t", "", "n=-5")}, nil},
		{"and goes on", []api.Rec{rec("s", "", "n=5"), rec("t", "", "n=-5"), rec("u", "", "n=2")}, ent("", 2)},
		{"several fields", []api.Rec{rec("s", "", "m=100 n=5 o=1000"), rec("s", "", "m=7"), rec("s", "", "n=6")}, ent("", 11)},
		{"streams and types", []api.Rec{rec("s", "", "n=1"), rec("t", "a:x", "n=2"), of("u", "t", "", "n=4")}, ent("", 7)},
	})
	wantRows(t, api.Def{Kind: api.Sum, Field: "n", Query: ask("a:x /")}, []row{
		{"asked", []api.Rec{rec("s", "", "n=1"), rec("s", "a:x", "n=2"), rec("s", "a:y", "n=4"), rec("s", "a:x a:y", "n=8")}, ent("", 10)},
	})
}

func TestLatest(t *testing.T) {
	wantRows(t, api.Def{Kind: api.Latest, Field: "n", Query: ask("/")}, []row{
		{"nothing", nil, nil},
		{"one", []api.Rec{rec("s", "", "n=5")}, ent("s", 5)},
		{"a later one", []api.Rec{rec("s", "", "n=5"), rec("s", "", "n=-3")}, ent("s", -3)},
		{"a 0 is an entry", []api.Rec{rec("s", "", "n=0")}, ent("s", 0)},
		{"a later 0 is one too", []api.Rec{rec("s", "", "n=5"), rec("s", "", "n=0")}, ent("s", 0)},
		{"no such field", []api.Rec{rec("s", "n:n", "m=5"), rec("n", "", "")}, nil},
		{"no such field, later", []api.Rec{rec("s", "", "n=5"), rec("s", "", "m=6"), rec("s", "", "")}, ent("s", 5)},
		{"streams", []api.Rec{rec("t", "", "n=1"), rec("s", "", "n=2"), rec("u", "", "n=0"), rec("t", "", "n=4")}, ent("s", 2, "t", 4, "u", 0)},
		{"by bytes", []api.Rec{rec("é", "", "n=1"), rec("z", "", "n=2"), rec("a-b", "", "n=3"), rec("a", "", "n=4")}, ent("a", 4, "a-b", 3, "z", 2, "é", 1)},
	})
	wantRows(t, api.Def{Kind: api.Latest, Field: "n", Query: ask("/ t")}, []row{
		{"asked", []api.Rec{rec("s", "", "n=1"), of("u", "s", "", "n=2"), of("u", "t", "", "n=3")}, ent("s", 1)},
	})
}

// Members counts by tag and stream; an event without tags is in none.
func TestMembers(t *testing.T) {
	wantRows(t, api.Def{Kind: api.Members, Query: ask("/")}, []row{
		{"nothing", nil, nil},
		{"no tag", []api.Rec{rec("s", "", "n=5")}, nil},
		{"a tag", []api.Rec{rec("s", "a:x", "n=5")}, ent("a:x s", 1)},
		{"tags", []api.Rec{rec("s", "a:x a:y b:x", "")}, ent("a:x s", 1, "a:y s", 1, "b:x s", 1)},
		{"again", []api.Rec{rec("s", "a:x", ""), rec("s", "a:x a:y", ""), rec("s", "a:x", "")}, ent("a:x s", 3, "a:y s", 1)},
		{"streams", []api.Rec{rec("t", "a:x b:x", ""), rec("s", "b:x", ""), rec("t", "b:x", "")}, ent("a:x t", 1, "b:x s", 1, "b:x t", 2)},
		{"by bytes", []api.Rec{rec("s", "a:x a:x-y", ""), rec("-", "a:x", "")}, ent("a:x -", 1, "a:x s", 1, "a:x-y s", 1)},
	})
	wantRows(t, api.Def{Kind: api.Members, Query: ask("a:x /")}, []row{
		{"all tags of what is asked for", []api.Rec{rec("s", "a:x a:y", ""), rec("s", "a:y", "")}, ent("a:x s", 1, "a:y s", 1)},
	})
}

// A query without clauses asks for nothing.
func TestStepOfWhatIsNotAskedFor(t *testing.T) {
	for _, d := range four() {
		d.Query = ask()
		s, m := start(t, d)
		over := rec("s", "a:x", "n=1")
		over.Event.Fields[0].N = math.MaxInt
		step(t, s, m, append(some(), over)...)
		wantEntries(t, sayDef(d), s, nil)
		m = load(t, s, m, ent("", 5, "k", -1))
		step(t, s, m, append(some(), over)...)
		wantEntries(t, sayDef(d), s, ent("", 5, "k", -1))
	}
}

// All definitions, with all records, each one several times.
func TestAllKinds(t *testing.T) {
	for _, d := range defs() {
		s, m := start(t, d)
		for range 3 {
			m = step(t, s, m, some()...)
		}
	}
}

// Each number that is added to each sum, at both ends and beyond.
func TestSumGoesOver(t *testing.T) {
	edges := []int{
		0, 1, -1, 5, api.MaxNum, -api.MaxNum, api.MaxSum - 1, api.MaxSum, api.MaxSum + 1, 1 - api.MaxSum, -api.MaxSum, -api.MaxSum - 1,
		2*api.MaxSum - 1, 2 * api.MaxSum, 2*api.MaxSum + 1, -2 * api.MaxSum, -2*api.MaxSum - 1, 1 - 2*api.MaxSum,
		math.MaxInt - api.MaxSum, math.MaxInt - 1, math.MaxInt, math.MinInt, math.MinInt + 1, math.MinInt + api.MaxSum,
	}
	for _, before := range edges {
		for _, n := range edges {
			s, m := start(t, api.Def{Kind: api.Sum, Field: "n", Query: ask("/")})
			if before != 0 && before >= -api.MaxSum && before <= api.MaxSum {
				m = load(t, s, m, ent("", before))
			}
			r := rec("s", "", "n=0")
			r.Event.Fields[0].N = n
			m = step(t, s, m, r)
			step(t, s, m, rec("s", "", "m=1"), rec("s", "", ""), rec("s", "", "n=1"), rec("s", "", "n=-1"))
		}
	}
}

// P15.2's edge by hand: MaxSum is reached, and one more refused; what remains can be folded on.
func TestSumAtItsEnds(t *testing.T) {
	for _, sign := range []int{1, -1} {
		s, _ := start(t, api.Def{Kind: api.Sum, Field: "n", Query: ask("/")})
		r := rec("s", "", "n=0")
		r.Event.Fields[0].N = sign * api.MaxNum
		for i := range api.MaxSum / api.MaxNum {
			if code := s.Step(r); code != api.OK {
				t.Fatalf("Step %d is %d", i, code)
			}
		}
		one := rec("s", "", "n="+strconv.Itoa(sign))
		if code := s.Step(one); code != api.ErrOver {
			t.Errorf("Step beyond the end is %d", code)
		}
		wantEntries(t, "at the end", s, ent("", sign*api.MaxSum))
		back := rec("s", "", "n="+strconv.Itoa(-sign))
		for _, code := range []api.Errno{s.Step(back), s.Step(one)} {
			if code != api.OK {
				t.Errorf("Step inside is %d", code)
			}
		}
		if code := s.Step(one); code != api.ErrOver {
			t.Errorf("Step beyond the end again is %d", code)
		}
		wantEntries(t, "at the end again", s, ent("", sign*api.MaxSum))
	}
}

// The other kinds have no end: what they come to is no sum.
func TestOthersDoNotGoOver(t *testing.T) {
	big := rec("s", "a:x", "n=0")
	big.Event.Fields[0].N = math.MaxInt
	for _, d := range four() {
		if d.Kind == api.Sum {
			continue
		}
		s, m := start(t, d)
		m = load(t, s, m, ent("", api.MaxSum, "a:x s", api.MaxSum, "s", api.MaxSum))
		step(t, s, m, big, big)
		want := map[int][]api.Entry{
			api.Count:   ent("", api.MaxSum+2, "a:x s", api.MaxSum, "s", api.MaxSum),
			api.Latest:  ent("", api.MaxSum, "a:x s", api.MaxSum, "s", math.MaxInt),
			api.Members: ent("", api.MaxSum, "a:x s", api.MaxSum+2, "s", api.MaxSum),
		}
		wantEntries(t, sayDef(d), s, want[d.Kind])
	}
}

// A number that comes to 0 from below is no entry, and the next one is one again.
func TestNumbersThatComeToZero(t *testing.T) {
	for _, d := range []api.Def{four()[0], four()[1]} {
		s, m := start(t, d)
		m = load(t, s, m, ent("", -1, "a:x s", -1, "k", -1))
		m = step(t, s, m, rec("s", "a:x", ""))
		if l := s.Entries(); len(l) != 2 {
			t.Errorf("%s: at 0 there are %s", sayDef(d), say(l))
		}
		m = step(t, s, m, rec("s", "a:x", ""))
		if l := s.Entries(); len(l) != 3 {
			t.Errorf("%s: behind 0 there are %s", sayDef(d), say(l))
		}
	}
}

// Step does not ask whether an event is valid: tags count as often as they stand, and the first field of a name.
func TestEventsThatAreNotValid(t *testing.T) {
	odd := []api.Rec{
		rec("S", "x x b:x a:x a:x", "n=1 n=2 a=3"), rec("", "", "n=4"), rec(" ", "a:x", "z=1 n=5"), rec("\xff", "\xff a", "N=1"),
		{Event: api.Event{Tags: []string{"", " "}, Fields: []api.Field{{}, {N: 3}}}}, rec(strings.Repeat("s", 99), "q:"+strings.Repeat("q", 99), "n=1"),
		rec("s", "a:a a:b a:c a:d a:e a:f a:g a:h", "a=1 b=2 c=3 d=4 e=5 n=6"),
	}
	for _, d := range defs() {
		s, m := start(t, d)
		step(t, s, m, slices.Concat(odd, some(), odd)...)
	}
	s, _ := start(t, four()[1])
	s.Step(odd[0])
	wantEntries(t, "tags", s, ent("a:x S", 2, "b:x S", 1, "x S", 2))
	s, _ = start(t, four()[2])
	s.Step(odd[0])
	wantEntries(t, "fields", s, ent("", 1))
}

// The position and the version of a record tell a projection nothing.
func TestStepAsksForTheEventAlone(t *testing.T) {
	for _, d := range four() {
		one, _ := start(t, d)
		other, _ := start(t, d)
		for i, r := range some() {
			one.Step(r)
			r.Pos, r.Version = -i, math.MaxInt-i
			other.Step(r)
		}
		wantEntries(t, sayDef(d), other, one.Entries())
	}
}

// loads are entries, and whether a Latest takes them, and the other kinds do.
var loads = []struct {
	l              []api.Entry
	latest, others bool
}{
	{nil, true, true}, {[]api.Entry{}, true, true}, {ent("", 1), true, true}, {ent("k", 1), true, true}, {ent("k", -1), true, true},
	{ent("", 0), true, false}, {ent("k", 0), true, false}, {ent("a", 1, "b", 0), true, false}, {ent("a", 0, "b", 1), true, false},
	{ent("a", 1, "b", 0, "c", 3), true, false}, {ent("", 1, "a", 2, "b", 3), true, true},
	{ent("a", api.MaxSum), true, true}, {ent("a", -api.MaxSum), true, true}, {ent("a", api.MaxSum-1, "b", 1-api.MaxSum), true, true},
	{ent("a", api.MaxSum+1), false, false}, {ent("a", -api.MaxSum-1), false, false}, {ent("a", math.MaxInt), false, false},
	{ent("a", math.MinInt), false, false}, {ent("a", 1, "b", api.MaxSum+1), false, false}, {ent("a", -api.MaxSum-1, "b", 1), false, false},
	{ent("a", 1, "a", 1), false, false}, {ent("b", 1, "a", 1), false, false}, {ent("", 1, "", 2), false, false}, {ent("a", 1, "", 1), false, false},
	{ent("a", 1, "b", 1, "b", 2), false, false}, {ent("a", 1, "c", 1, "b", 2), false, false}, {ent("b", 1, "a", 1, "c", 2), false, false},
	{ent("a", 1, "ab", 1, "b", 1), true, true}, {ent("ab", 1, "a", 1), false, false}, {ent("Z", 1, "a", 1, "é", 1, "\xff", 1), true, true},
	{ent("é", 1, "z", 1), false, false}, {ent("a:x s", 1, "a:x t", 2, "s", 3), true, true}, {ent(strings.Repeat("k", 200), 1), true, true},
	{ent("\x00", 1, "\x00\x00", 1), true, true}, {ent("a", 0, "a", 0), false, false}, {ent("b", 0, "a", 0), false, false},
	{ent("a", api.MaxSum, "b", 2, "c", -api.MaxSum), true, true}, {ent("a", 1, "b", 2, "c", 0), true, false},
}

func TestLoad(t *testing.T) {
	for _, d := range four() {
		for _, before := range [][]api.Rec{nil, some()} {
			for _, r := range loads {
				s, m := start(t, d)
				m = step(t, s, m, before...)
				want, ok := m, r.others || r.latest && d.Kind == api.Latest
				if ok {
					want = load(t, s, m, r.l)
				} else if code := s.Load(r.l); code != api.ErrArg {
					t.Fatalf("%s: Load of %s is %d, want ErrArg", sayDef(d), say(r.l), code)
				}
				wantEntries(t, sayDef(d)+": after Load of "+say(r.l), s, want.entries())
				step(t, s, want, some()...)
			}
		}
	}
}

// What was loaded takes the place of all that was there, and a second time too.
func TestLoadReplaces(t *testing.T) {
	for _, d := range four() {
		s, m := start(t, d)
		m = step(t, s, m, some()...)
		m = load(t, s, m, ent("a", 1, "b", 2))
		m = step(t, s, m, some()...)
		m = load(t, s, m, ent("c", 3))
		m = load(t, s, m, nil)
		m = step(t, s, m, some()...)
		load(t, s, m, nil)
	}
}

// P15.4: at each place where the records are parted, a state that goes on, and one that loads what the first part came to,
// tell the same as one that folds all of them.
func TestFoldingInParts(t *testing.T) {
	l := slices.Concat(some(), some()[3:], some()[:5])
	for _, d := range defs() {
		whole, m := start(t, d)
		step(t, whole, m, l...)
		for at := range len(l) + 1 {
			first, m := start(t, d)
			m = step(t, first, m, l[:at]...)
			loaded, k := start(t, d)
			k = load(t, loaded, k, first.Entries())
			step(t, first, m, l[at:]...)
			step(t, loaded, k, l[at:]...)
			wantEntries(t, sayDef(d)+": one that goes on", first, whole.Entries())
			wantEntries(t, sayDef(d)+": a loaded one", loaded, whole.Entries())
		}
	}
}

// A loaded state goes over where the other one does.
func TestLoadedSumGoesOverAlike(t *testing.T) {
	d := api.Def{Kind: api.Sum, Field: "n", Query: ask("/")}
	first, m := start(t, d)
	r := rec("s", "", "n=0")
	r.Event.Fields[0].N = api.MaxSum - 3
	m = step(t, first, m, r)
	loaded, k := start(t, d)
	k = load(t, loaded, k, first.Entries())
	for _, n := range []string{"n=4", "n=3", "n=1", "n=-1", "n=2", "n=1", "n=1"} {
		m = step(t, first, m, rec("s", "", n))
		k = step(t, loaded, k, rec("s", "", n))
		wantEntries(t, n, loaded, first.Entries())
	}
}

func TestClonesAreApart(t *testing.T) {
	for _, d := range defs() {
		for n := range len(some()) {
			for _, first := range []bool{true, false} {
				s, m := start(t, d)
				m = step(t, s, m, some()[:n]...)
				c, k := s.Clone(), m
				wantEntries(t, sayDef(d)+": a clone", c, m.entries())
				for i, r := range slices.Concat(some()[n:], some()) {
					if (i%2 == 0) == first {
						m = step(t, s, m, r)
					} else {
						k = step(t, c, k, r)
					}
					wantEntries(t, sayDef(d)+": the first", s, m.entries())
					wantEntries(t, sayDef(d)+": the clone", c, k.entries())
				}
			}
		}
	}
}

// Load changes one copy alone, whichever it is, and refuses in both alike.
func TestLoadOfClones(t *testing.T) {
	for _, d := range four() {
		s, m := start(t, d)
		m = step(t, s, m, some()...)
		c, k := s.Clone(), m
		k = load(t, c, k, ent("a", 1))
		wantEntries(t, "the first", s, m.entries())
		m = load(t, s, m, ent("b", 1))
		wantEntries(t, "the clone", c, k.entries())
		for _, x := range []*State{s, c, c.Clone()} {
			code, zero := x.Load(ent("a", 1, "a", 1)), x.Load(ent("a", 0))
			if code != api.ErrArg || (zero == api.OK) != (d.Kind == api.Latest) {
				t.Errorf("%s: Load is %d, and of 0 %d", sayDef(d), code, zero)
			}
		}
	}
}

func TestSeveralClonesOfOne(t *testing.T) {
	for _, d := range four() {
		s, m := start(t, d)
		all, tales := []*State{s}, []tale{m}
		for range 3 {
			for i := range len(all) {
				all, tales = append(all, all[i].Clone()), append(tales, tales[i])
			}
			for i, c := range all {
				tales[i] = step(t, c, tales[i], some()[i])
			}
			for i, c := range all {
				wantEntries(t, sayDef(d), c, tales[i].entries())
			}
		}
	}
}

// spoilDef writes over the lists of a definition, the spare capacity of each too.
func spoilDef(d api.Def) {
	for _, c := range d.Query.Clauses {
		for _, l := range [][]string{c.Tags, c.Types} {
			l = l[:cap(l)]
			for i := range l {
				l[i] = "spoilt"
			}
		}
	}
	clauses := d.Query.Clauses[:cap(d.Query.Clauses)]
	for i := range clauses {
		clauses[i] = api.Clause{Types: []string{"spoilt"}}
	}
}

func spoilEvent(e api.Event) {
	tags, fields := e.Tags[:cap(e.Tags)], e.Fields[:cap(e.Fields)]
	for i := range tags {
		tags[i] = "spoilt:x"
	}
	for i := range fields {
		fields[i] = api.Field{Name: "spoilt", N: 77}
	}
}

func spoilEntries(l []api.Entry) {
	l = l[:cap(l)]
	for i := range l {
		l[i] = api.Entry{Key: "spoilt", N: 77}
	}
}

func TestNewDoesNotKeepTheDefinition(t *testing.T) {
	for i := range defs() {
		given := defs()[i]
		s, _ := start(t, given)
		c := s.Clone()
		spoilDef(given)
		m := tale{def: defs()[i]}
		step(t, s, m, some()...)
		step(t, c, m, some()...)
	}
}

func TestNewDoesNotChangeTheDefinition(t *testing.T) {
	tags, types := words("a:x b:x left left"), words("t u left left")
	clauses := []api.Clause{{Tags: tags[:2], Types: types[:2]}, {Tags: tags[1:2]}, {Types: words("left")}}
	s, m := start(t, api.Def{Kind: api.Count, Query: api.Query{Clauses: clauses[:2]}})
	step(t, s, m, some()...)
	if !slices.Equal(tags, words("a:x b:x left left")) || !slices.Equal(types, words("t u left left")) {
		t.Errorf("the terms are %q and %q", tags, types)
	}
	if !query.Same(api.Query{Clauses: clauses}, ask("a:x b:x / t u", "b:x /", "/ left")) {
		t.Error("the clauses are others")
	}
}

func TestStepNeitherChangesNorKeepsTheRecord(t *testing.T) {
	fresh := func() api.Rec {
		r := rec("s", "a:x a:y left left", "m=1 n=2 o=7")
		r.Event.Tags, r.Event.Fields = r.Event.Tags[:2], r.Event.Fields[:2]
		return r
	}
	for _, d := range defs() {
		s, m := start(t, d)
		r, want := fresh(), fresh()
		s.Step(r)
		whole := func(e api.Event) api.Event {
			e.Tags, e.Fields = e.Tags[:4], e.Fields[:3]
			return e
		}
		if r.Pos != want.Pos || r.Version != want.Version || !event.Same(r.Event, want.Event) || !event.Same(whole(r.Event), whole(want.Event)) {
			t.Errorf("%s: Step changes the record", sayDef(d))
		}
		spoilEvent(r.Event)
		wantEntries(t, sayDef(d), s, m.with(fresh()).entries())
	}
}

func TestLoadNeitherChangesNorKeepsTheEntries(t *testing.T) {
	for _, d := range four() {
		l := ent("", 1, "a", 2, "b", 3, "left", 4)
		s, m := start(t, d)
		s.Load(l[:3])
		if !slices.Equal(l, ent("", 1, "a", 2, "b", 3, "left", 4)) {
			t.Errorf("%s: Load makes of the entries %s", sayDef(d), say(l))
		}
		spoilEntries(l)
		m.base = ent("", 1, "a", 2, "b", 3)
		wantEntries(t, sayDef(d), s, m.entries())
		step(t, s, m, some()...)
	}
}

func TestEntriesBelongToTheCaller(t *testing.T) {
	for _, d := range four() {
		s, m := start(t, d)
		for _, r := range some() {
			m = step(t, s, m, r)
			c, kept := s.Clone(), s.Entries()
			want := m.entries()
			spoilEntries(s.Entries())
			spoilEntries(c.Entries())
			wantEntries(t, sayDef(d)+": the first", s, want)
			wantEntries(t, sayDef(d)+": the clone", c, want)
			step(t, c, m, some()...)
			if !slices.Equal(kept, want) {
				t.Fatalf("%s: what was answered is now %s", sayDef(d), say(kept))
			}
		}
	}
}

func TestStatesAreIndependent(t *testing.T) {
	for _, d := range four() {
		a, m := start(t, d)
		b, k := start(t, d)
		m = step(t, a, m, some()[:5]...)
		k = step(t, b, k, some()[5:]...)
		k = load(t, b, k, ent("x", 1))
		wantEntries(t, sayDef(d)+": one", a, m.entries())
		wantEntries(t, sayDef(d)+": the other", b, k.entries())
	}
}

// A state that New did not make concerns no event. It loads what all kinds take.
func TestZeroValue(t *testing.T) {
	var none, zero State
	m := tale{}
	step(t, &zero, m, some()...)
	c := zero.Clone()
	step(t, c, m, some()...)
	load(t, c, m, ent("k", 1))
	wantEntries(t, "the zero value", &zero, nil)
	for _, r := range loads {
		before := zero.Entries()
		if code := zero.Load(r.l); (code == api.OK) != r.others || code != api.OK && code != api.ErrArg {
			t.Fatalf("Load of %s is %d", say(r.l), code)
		}
		if r.others {
			before = r.l
		}
		wantEntries(t, "the zero value", &zero, before)
		step(t, &zero, tale{base: before}, some()...)
	}
	wantEntries(t, "another zero value", &none, nil)
}

// dice throws the same numbers in each run.
type dice uint64

func (x *dice) throw(n int) int {
	*x = *x*6364136223846793005 + 1442695040888963407
	return int(uint64(*x)>>33) % n
}

// pick returns up to most of the texts, in any order.
func (x *dice) pick(texts []string, most int) []string {
	var l []string
	for range x.throw(most + 1) {
		l = append(l, texts[x.throw(len(texts))])
	}
	return l
}

func (x *dice) number() int {
	switch x.throw(5) {
	case 0:
		return x.throw(3) - 1
	case 1:
		return api.MaxSum - x.throw(9)
	case 2:
		return x.throw(9) - api.MaxSum
	}
	return x.throw(2000) - 1000
}

func (x *dice) rec() api.Rec {
	e := api.Event{Stream: words("s t u kunde-7")[x.throw(4)], Type: words("t u v")[x.throw(3)], Tags: x.pick(words("a:x a:y b:x"), 4)}
	for _, name := range x.pick(words("m n kunde-7"), 4) {
		e.Fields = append(e.Fields, api.Field{Name: name, N: x.number()})
	}
	if x.throw(3) > 0 {
		e = event.Norm(e)
	}
	return api.Rec{Pos: x.throw(99), Version: x.throw(99), Event: e}
}

func (x *dice) query() api.Query {
	var q api.Query
	for range x.throw(4) {
		q.Clauses = append(q.Clauses, api.Clause{Tags: x.pick(words("a:x a:y b:x"), 2), Types: x.pick(words("t u v"), 3)})
	}
	return query.Norm(q)
}

func (x *dice) def() api.Def {
	d := api.Def{Kind: 1 + x.throw(4), Query: x.query()}
	if d.Kind == api.Sum || d.Kind == api.Latest {
		d.Field = words("m n kunde-7")[x.throw(3)]
	}
	return d
}

func (x *dice) entries() []api.Entry {
	byKey := map[string]int{}
	for _, key := range x.pick([]string{"", "s", "t", "a:x s", "b:x u", "k"}, 5) {
		byKey[key] = x.number()
	}
	var l []api.Entry
	for _, key := range slices.Sorted(maps.Keys(byKey)) {
		if byKey[key] != 0 {
			l = append(l, api.Entry{Key: key, N: byKey[key]})
		}
	}
	return l
}

// Long runs of calls on some states and their clones.
func TestLongRuns(t *testing.T) {
	for seed := range 150 {
		x := dice(seed)
		s, m := start(t, x.def())
		all, tales := []*State{s}, []tale{m}
		for range 60 {
			at := x.throw(len(all))
			switch {
			case x.throw(8) == 0 && len(all) < 4:
				all, tales = append(all, all[at].Clone()), append(tales, tales[at])
			case x.throw(8) == 0:
				tales[at] = load(t, all[at], tales[at], x.entries())
			case x.throw(8) == 0:
				if code := all[at].Load(append(x.entries(), ent("z", 1, "z", 1)...)); code != api.ErrArg {
					t.Fatalf("Load of a key twice is %d", code)
				}
			case x.throw(8) == 0:
				other, k := start(t, tales[at].def)
				if l := all[at].Entries(); !slices.ContainsFunc(l, func(e api.Entry) bool { return e.N > api.MaxSum }) {
					all[at], tales[at] = other, load(t, other, k, l)
				}
			default:
				tales[at] = step(t, all[at], tales[at], x.rec())
			}
		}
		for i, c := range all {
			wantEntries(t, "run "+strconv.Itoa(seed), c, tales[i].entries())
		}
	}
}
