package event

import (
	"math"
	"slices"
	"strconv"
	"strings"
	"testing"

	"registrar/api"
)

// most is the greatest number of a field, written out as the chapter has it.
const most = 1099511627776

// good is a valid event with as many tags and fields as there may be, the numbers at both edges.
func good() api.Event {
	return api.Event{
		Stream: "kunde-7", Type: "bestellt",
		Tags:   []string{"a:x", "a:y", "aa:x", "b:a", "\u00e9:a", "\u03bb:\u00df"},
		Fields: []api.Field{{Name: "_a", N: -most}, {Name: "a", N: most}, {Name: "b", N: 0}, {Name: "\u00f8", N: 1}},
	}
}

// changed is good with one change.
func changed(change func(e *api.Event)) api.Event {
	e := good()
	change(&e)
	return e
}

// tags has n valid tags in increasing order, fields so many fields.
func tags(n int) []string {
	var l []string
	for i := range n {
		l = append(l, "k:a"+string(rune('a'+i/26))+string(rune('a'+i%26)))
	}
	return l
}

func fields(n int) []api.Field {
	var l []api.Field
	for i := range n {
		l = append(l, api.Field{Name: "a" + string(rune('a'+i/26)) + string(rune('a'+i%26)), N: i})
	}
	return l
}

// ofTags and ofFields are events without a fault beside what they are given.
func ofTags(l ...string) api.Event {
	return api.Event{Stream: "s", Type: "t", Tags: l}
}

func ofFields(l ...api.Field) api.Event {
	return api.Event{Stream: "s", Type: "t", Fields: l}
}

// noNames has texts that are no names.
func noNames() []string {
	return []string{"", "7", "-a", "A", "a b", "a:b", "a.b", "\u00e4", "\xff", "a\xc3", strings.Repeat("a", 25), strings.Repeat("\u03bb", 13)}
}

// noTags has texts that are no tags.
func noTags() []string {
	return []string{"", "a", ":", "a:", ":a", "a:b:c", "a;b", "a:7", "7:a", "A:b", "a: b", "a:\xff", strings.Repeat("a", 25) + ":b", "b:" + strings.Repeat("a", 25)}
}

// say writes an event out, each text in quotes, so that two events have the same text only if they are equal.
func say(e api.Event) string {
	s := strconv.Quote(e.Stream) + " " + strconv.Quote(e.Type) + " ["
	for _, tag := range e.Tags {
		s += " " + strconv.Quote(tag)
	}
	s += " ] ["
	for _, f := range e.Fields {
		s += " " + strconv.Quote(f.Name) + "=" + strconv.Itoa(f.N)
	}
	return s + " ]"
}

// copied shares no memory with e.
func copied(e api.Event) api.Event {
	e.Tags, e.Fields = slices.Clone(e.Tags), slices.Clone(e.Fields)
	return e
}

func wantMay(t *testing.T, e api.Event, want api.Errno) {
	t.Helper()
	if got := May(e); got != want {
		t.Errorf("May(%s) is %d, want %d", say(e), got, want)
	}
}

func wantNorm(t *testing.T, e, want api.Event) {
	t.Helper()
	if got := Norm(e); say(got) != say(want) {
		t.Errorf("Norm(%s) is %s, want %s", say(e), say(got), say(want))
	}
}

// wantSame asks both ways round.
func wantSame(t *testing.T, a, b api.Event, want bool) {
	t.Helper()
	if Same(a, b) != want || Same(b, a) != want {
		t.Errorf("Same of %s and %s: %v, the other way round %v, want %v", say(a), say(b), Same(a, b), Same(b, a), want)
	}
}

func wantHas(t *testing.T, e api.Event, tag string, want bool) {
	t.Helper()
	if got := Has(e, tag); got != want {
		t.Errorf("Has(%s, %q) is %v", say(e), tag, got)
	}
}

func wantValue(t *testing.T, e api.Event, field string, n int, ok bool) {
	t.Helper()
	if gotN, gotOK := Value(e, field); gotN != n || gotOK != ok {
		t.Errorf("Value(%s, %q) is %d, %v, want %d, %v", say(e), field, gotN, gotOK, n, ok)
	}
}

// P4.1

func TestMayOfValidEvents(t *testing.T) {
	wantMay(t, good(), api.OK)
	wantMay(t, api.Event{Stream: "s", Type: "t"}, api.OK)
	wantMay(t, api.Event{Stream: "s", Type: "s", Tags: []string{}, Fields: []api.Field{}}, api.OK)
	wantMay(t, api.Event{Stream: strings.Repeat("a", 24), Type: strings.Repeat("\u03bb", 12)}, api.OK)
	for n := range 7 {
		wantMay(t, ofTags(tags(n)...), api.OK)
	}
	for n := range 5 {
		wantMay(t, ofFields(fields(n)...), api.OK)
	}
}

func TestMayStreamAndType(t *testing.T) {
	wantMay(t, api.Event{}, api.ErrName)
	for _, s := range noNames() {
		wantMay(t, changed(func(e *api.Event) { e.Stream = s }), api.ErrName)
		wantMay(t, changed(func(e *api.Event) { e.Type = s }), api.ErrName)
		wantMay(t, changed(func(e *api.Event) { e.Stream, e.Type = s, s }), api.ErrName)
	}
}

func TestMayAmounts(t *testing.T) {
	for _, n := range []int{7, 8, 100, 600} {
		wantMay(t, ofTags(tags(n)...), api.ErrBig)
	}
	for _, n := range []int{5, 6, 7, 100, 600} {
		wantMay(t, ofFields(fields(n)...), api.ErrBig)
	}
	wantMay(t, changed(func(e *api.Event) { e.Tags = tags(7) }), api.ErrBig)
	wantMay(t, changed(func(e *api.Event) { e.Fields = fields(5) }), api.ErrBig)
	wantMay(t, changed(func(e *api.Event) { e.Tags, e.Fields = tags(7), fields(5) }), api.ErrBig)
	wantMay(t, changed(func(e *api.Event) { e.Tags = make([]string, 1<<16) }), api.ErrBig)
	wantMay(t, changed(func(e *api.Event) { e.Fields = make([]api.Field, 1<<16) }), api.ErrBig)
}

// The fault stands at each place once.
func TestMayTags(t *testing.T) {
	for _, s := range noTags() {
		wantMay(t, ofTags(s), api.ErrName)
		for i := range good().Tags {
			wantMay(t, changed(func(e *api.Event) { e.Tags[i] = s }), api.ErrName)
		}
	}
}

func TestMayNamesOfFields(t *testing.T) {
	for _, s := range noNames() {
		wantMay(t, ofFields(api.Field{Name: s, N: 1}), api.ErrName)
		for i := range good().Fields {
			wantMay(t, changed(func(e *api.Event) { e.Fields[i].Name = s }), api.ErrName)
		}
	}
}

func TestMayOrderOfTags(t *testing.T) {
	for i := range 5 {
		wantMay(t, changed(func(e *api.Event) { e.Tags[i] = e.Tags[i+1] }), api.ErrArg)
		wantMay(t, changed(func(e *api.Event) { e.Tags[i], e.Tags[i+1] = e.Tags[i+1], e.Tags[i] }), api.ErrArg)
	}
	wantMay(t, ofTags("a:x", "b:x", "a:x"), api.ErrArg)
	// By bytes: '-' stands ahead of ':', and that ahead of '_' and the letters; z ahead of what has several bytes.
	for _, l := range [][2]string{{"a-b:x", "a:x"}, {"a0:x", "a:x"}, {"a:x", "a_:x"}, {"a:x", "aa:x"}, {"a:b", "a:b-"}, {"z:x", "\u00e9:x"}, {"\u00df:x", "\u00e9:x"}, {"\u00f8:x", "\u03bb:x"}} {
		wantMay(t, ofTags(l[0], l[1]), api.OK)
		wantMay(t, ofTags(l[1], l[0]), api.ErrArg)
	}
}

func TestMayOrderOfFields(t *testing.T) {
	for i := range 3 {
		wantMay(t, changed(func(e *api.Event) { e.Fields[i].Name = e.Fields[i+1].Name }), api.ErrArg)
		wantMay(t, changed(func(e *api.Event) { e.Fields[i], e.Fields[i+1] = e.Fields[i+1], e.Fields[i] }), api.ErrArg)
	}
	// The numbers have no part in it.
	wantMay(t, ofFields(api.Field{Name: "a", N: 1}, api.Field{Name: "a", N: 2}), api.ErrArg)
	wantMay(t, ofFields(api.Field{Name: "a", N: 2}, api.Field{Name: "b", N: 1}), api.OK)
	for _, l := range [][2]string{{"a", "a-"}, {"a-", "a0"}, {"a9", "a_"}, {"_", "a"}, {"a", "aa"}, {"z", "\u00e9"}, {"\u00f8", "\u03bb"}} {
		wantMay(t, ofFields(api.Field{Name: l[0]}, api.Field{Name: l[1]}), api.OK)
		wantMay(t, ofFields(api.Field{Name: l[1]}, api.Field{Name: l[0]}), api.ErrArg)
	}
}

func TestMayNumbers(t *testing.T) {
	for i := range good().Fields {
		for _, n := range []int{0, 1, -1, 1 << 31, -1 << 32, most - 1, most, -most, -most + 1} {
			wantMay(t, changed(func(e *api.Event) { e.Fields[i].N = n }), api.OK)
		}
		for _, n := range []int{most + 1, -most - 1, 1 << 41, -1 << 41, math.MaxInt, math.MinInt} {
			wantMay(t, changed(func(e *api.Event) { e.Fields[i].N = n }), api.ErrArg)
		}
	}
}

// R3: of two faults the one that the chapter names first is told, on whichever side of the event it stands.
func TestMayTellsTheFirstError(t *testing.T) {
	noName := []func(e *api.Event){
		func(e *api.Event) { e.Stream = "7" },
		func(e *api.Event) { e.Type = "" },
	}
	big := []func(e *api.Event){
		func(e *api.Event) { e.Tags = append(e.Tags, "\u03bb:\u03bb") },
		func(e *api.Event) { e.Fields = append(e.Fields, api.Field{Name: "\u03bb"}) },
	}
	noItem := []func(e *api.Event){
		func(e *api.Event) { e.Tags[5] = "\u03bb" },
		func(e *api.Event) { e.Fields[3].Name = "" },
	}
	noArg := []func(e *api.Event){
		func(e *api.Event) { e.Tags[1] = e.Tags[0] },
		func(e *api.Event) { e.Fields[0].Name = e.Fields[1].Name },
		func(e *api.Event) { e.Fields[0].N = most + 1 },
	}
	order := []struct {
		faults []func(e *api.Event)
		want   api.Errno
	}{{noName, api.ErrName}, {big, api.ErrBig}, {noItem, api.ErrName}, {noArg, api.ErrArg}}
	for i, first := range order {
		for _, fault := range first.faults {
			wantMay(t, changed(fault), first.want)
			for _, later := range order[i:] {
				for _, also := range later.faults {
					wantMay(t, changed(func(e *api.Event) { also(e); fault(e) }), first.want)
				}
			}
		}
	}
}

// P4.2: Norm

func TestNormExample(t *testing.T) {
	wantNorm(t, ofTags("b:x", "a:y", "b:x"), ofTags("a:y", "b:x"))
}

func TestNormTags(t *testing.T) {
	for _, c := range []struct{ tags, want []string }{
		{nil, nil},
		{[]string{}, nil},
		{[]string{"a:x"}, []string{"a:x"}},
		{[]string{"a:x", "a:x", "a:x"}, []string{"a:x"}},
		{[]string{"c:x", "b:x", "a:x"}, []string{"a:x", "b:x", "c:x"}},
		{[]string{"a:x", "b:x", "a:x", "b:x", "a:y"}, []string{"a:x", "a:y", "b:x"}},
		{[]string{"\u00e9:x", "a_:x", "a:x", "z:x", "a-b:x", "a0:x"}, []string{"a-b:x", "a0:x", "a:x", "a_:x", "z:x", "\u00e9:x"}},
		{[]string{"b", "", "\xff", "A", "a", "", "\x00"}, []string{"", "\x00", "A", "a", "b", "\xff"}}, // it checks nothing
	} {
		wantNorm(t, ofTags(c.tags...), ofTags(c.want...))
	}
}

func TestNormFields(t *testing.T) {
	type list = []api.Field
	for _, c := range []struct{ fields, want list }{
		{nil, nil},
		{list{}, nil},
		{list{{Name: "a", N: 1}}, list{{Name: "a", N: 1}}},
		{list{{Name: "b", N: 1}, {Name: "a", N: 2}}, list{{Name: "a", N: 2}, {Name: "b", N: 1}}},
		{list{{Name: "a", N: 1}, {Name: "a", N: 2}}, list{{Name: "a", N: 2}}},
		{list{{Name: "a", N: 2}, {Name: "a", N: 1}}, list{{Name: "a", N: 1}}},
		{list{{Name: "a", N: 5}, {Name: "a", N: 0}}, list{{Name: "a"}}},
		{list{{Name: "b", N: 9}, {Name: "a", N: 3}, {Name: "b", N: -9}, {Name: "a", N: 4}, {Name: "a", N: 3}}, list{{Name: "a", N: 3}, {Name: "b", N: -9}}},
		{list{{Name: "\u03bb", N: 1}, {Name: "a", N: 2}, {Name: "_", N: 3}, {Name: "z", N: 4}, {Name: "a-", N: 5}}, list{{Name: "_", N: 3}, {Name: "a", N: 2}, {Name: "a-", N: 5}, {Name: "z", N: 4}, {Name: "\u03bb", N: 1}}},
		{list{{Name: "A", N: math.MinInt}, {Name: "\xff", N: math.MaxInt}, {Name: "", N: 1}, {Name: "", N: 7}}, list{{Name: "", N: 7}, {Name: "A", N: math.MinInt}, {Name: "\xff", N: math.MaxInt}}}, // it checks nothing
	} {
		wantNorm(t, ofFields(c.fields...), ofFields(c.want...))
	}
}

// Stream and Type remain, whatever they are, and both lists are brought in order at once.
func TestNormOfAll(t *testing.T) {
	wantNorm(t, good(), good())
	wantNorm(t, api.Event{}, api.Event{})
	for _, s := range append(noNames(), "kunde-7", "B.A") {
		e := api.Event{Stream: s, Type: "x" + s, Tags: []string{"b:x", "a:y", "b:x"}, Fields: []api.Field{{Name: "n", N: 1}, {Name: "m", N: 2}, {Name: "n", N: 3}}}
		want := api.Event{Stream: s, Type: "x" + s, Tags: []string{"a:y", "b:x"}, Fields: []api.Field{{Name: "m", N: 2}, {Name: "n", N: 3}}}
		wantNorm(t, e, want)
	}
}

// R6: a map has no order of its own, but the answer has.
func TestNormIsTheSameEachTime(t *testing.T) {
	e := api.Event{Tags: tags(600), Fields: fields(600)}
	back := copied(e)
	slices.Reverse(back.Tags)
	slices.Reverse(back.Fields)
	for range 20 {
		wantNorm(t, back, e)
	}
}

// R7
func TestNormLeavesItsArgument(t *testing.T) {
	manyTags := []string{"b:x", "a:y", "b:x", "spare", "spare"}
	manyFields := []api.Field{{Name: "n", N: 1}, {Name: "m", N: 2}, {Name: "n", N: 3}, {Name: "spare", N: 4}, {Name: "spare", N: 5}}
	whole := api.Event{Stream: "s", Type: "t", Tags: manyTags, Fields: manyFields}
	was := say(whole)
	e := api.Event{Stream: "s", Type: "t", Tags: manyTags[:3], Fields: manyFields[:3]}
	Norm(e)
	May(e)
	Same(e, e)
	if say(whole) != was {
		t.Errorf("it became %s, was %s", say(whole), was)
	}
}

func TestNormAnswersNewMemory(t *testing.T) {
	e := good()
	first, second := Norm(e), Norm(e)
	clear(e.Tags)
	clear(e.Fields)
	clear(second.Tags)
	clear(second.Fields)
	if say(first) != say(good()) {
		t.Errorf("what was answered became %s", say(first))
	}
	clear(first.Tags)
	clear(first.Fields)
	if third := Norm(good()); say(third) != say(good()) {
		t.Errorf("what is answered later is %s", say(third))
	}
}

// P4.2: Same

func TestSameOfEqualEvents(t *testing.T) {
	for _, e := range []api.Event{good(), {}, ofTags("b:x", "a:y", "b:x"), ofFields(api.Field{Name: "n", N: 1}, api.Field{Name: "n", N: 1}), {Stream: "\xff", Type: "A"}} {
		wantSame(t, e, copied(e), true)
	}
	wantSame(t, api.Event{Stream: "s"}, api.Event{Stream: "s", Tags: []string{}, Fields: []api.Field{}}, true)
}

func TestSameOfOneDifference(t *testing.T) {
	for _, change := range []func(e *api.Event){
		func(e *api.Event) { e.Stream = "kunde-8" },
		func(e *api.Event) { e.Stream = "" },
		func(e *api.Event) { e.Type = "bestell" },
		func(e *api.Event) { e.Stream, e.Type = e.Type, e.Stream },
		func(e *api.Event) { e.Tags = nil },
		func(e *api.Event) { e.Tags = e.Tags[:5] },
		func(e *api.Event) { e.Tags = e.Tags[1:] },
		func(e *api.Event) { e.Tags = append(e.Tags, e.Tags[5]) },
		func(e *api.Event) { e.Tags[0], e.Tags[1] = e.Tags[1], e.Tags[0] },
		func(e *api.Event) { e.Tags[0] = "" },
		func(e *api.Event) { e.Tags[5] = "\u03bb:\u00e9" },
		func(e *api.Event) { e.Fields = nil },
		func(e *api.Event) { e.Fields = e.Fields[:3] },
		func(e *api.Event) { e.Fields = e.Fields[1:] },
		func(e *api.Event) { e.Fields = append(e.Fields, e.Fields[3]) },
		func(e *api.Event) { e.Fields[2], e.Fields[3] = e.Fields[3], e.Fields[2] },
		func(e *api.Event) { e.Fields[0].Name = "_b" },
		func(e *api.Event) { e.Fields[3].Name = "o" },
		func(e *api.Event) { e.Fields[0].N++ },
		func(e *api.Event) { e.Fields[3].N = -1 },
	} {
		wantSame(t, good(), changed(change), false)
	}
	wantSame(t, ofTags("a:b", "c:d"), ofTags("a:bc", ":d"), false)
	wantSame(t, ofTags("a"), ofFields(api.Field{Name: "a"}), false)
	wantSame(t, api.Event{Stream: "a"}, api.Event{Type: "a"}, false)
	wantSame(t, ofTags("b:x", "a:y"), Norm(ofTags("b:x", "a:y")), false)
}

// P4.2: Has

func TestHas(t *testing.T) {
	e := good()
	for _, tag := range e.Tags {
		wantHas(t, e, tag, true)
		wantHas(t, e, tag[:len(tag)-1], false)
		wantHas(t, e, tag+"a", false)
		wantHas(t, api.Event{}, tag, false)
	}
	for _, s := range []string{"", "a", "a:", "x", "a:X", "A:x", e.Stream, e.Type, "_a", "b"} {
		wantHas(t, e, s, false)
	}
}

// It need not be in order, nor valid.
func TestHasOfAnyEvent(t *testing.T) {
	e := ofTags("c:x", "a:x", "b:x", "a:x", "", "\xff")
	for _, tag := range e.Tags {
		wantHas(t, e, tag, true)
	}
	wantHas(t, e, "b:y", false)
	wantHas(t, ofTags("a"), "", false)
	many := ofTags(tags(600)...)
	for _, tag := range many.Tags {
		wantHas(t, many, tag, true)
	}
}

// P4.2: Value

func TestValue(t *testing.T) {
	e := good()
	for _, f := range e.Fields {
		wantValue(t, e, f.Name, f.N, true)
		wantValue(t, e, f.Name+"a", 0, false)
		wantValue(t, api.Event{}, f.Name, 0, false)
	}
	for _, s := range []string{"", "A", "c", "a:x", e.Stream, e.Type} {
		wantValue(t, e, s, 0, false)
	}
}

// The first one of that name counts, in whichever order they stand; Norm keeps the last one.
func TestValueOfAnyEvent(t *testing.T) {
	e := ofFields(api.Field{Name: "n", N: 5}, api.Field{Name: "b", N: 1}, api.Field{Name: "a", N: 2}, api.Field{Name: "n", N: 6}, api.Field{Name: "", N: -7}, api.Field{Name: "b", N: math.MinInt})
	wantValue(t, e, "n", 5, true)
	wantValue(t, e, "b", 1, true)
	wantValue(t, e, "a", 2, true)
	wantValue(t, e, "", -7, true)
	wantValue(t, e, "c", 0, false)
	wantValue(t, Norm(e), "n", 6, true)
	wantValue(t, Norm(e), "b", math.MinInt, true)
}

// P4.3

// jumbles has events of few texts, so that they meet often; only some of them are names and tags.
func jumbles() []api.Event {
	someTags := []string{"a:x", "b:x", "a:y", "\u00e9:x", "a-b:x", "a", "", "\xff"}
	someNames := []string{"n", "m", "_", "\u03bb", "n-", "7", "", "\xff"}
	x := uint64(1)
	next := func(n int) int {
		x = x*6364136223846793005 + 1442695040888963407
		return int(x>>33) % n
	}
	var l []api.Event
	for range 3000 {
		e := api.Event{Stream: someNames[next(8)], Type: someNames[next(8)]}
		width := 5 + 3*next(2)
		for range next(9) {
			e.Tags = append(e.Tags, someTags[next(width)])
		}
		for range next(7) {
			e.Fields = append(e.Fields, api.Field{Name: someNames[next(width)], N: next(5) - 2})
		}
		l = append(l, e)
	}
	return l
}

// normByRule says again what Norm is, without a map: what is put in goes behind all that is less.
func normByRule(e api.Event) api.Event {
	out := api.Event{Stream: e.Stream, Type: e.Type}
	for _, tag := range e.Tags {
		i := 0
		for i < len(out.Tags) && out.Tags[i] < tag {
			i++
		}
		if i == len(out.Tags) || out.Tags[i] != tag {
			out.Tags = slices.Insert(out.Tags, i, tag)
		}
	}
	for _, f := range e.Fields {
		i := 0
		for i < len(out.Fields) && out.Fields[i].Name < f.Name {
			i++
		}
		if i < len(out.Fields) && out.Fields[i].Name == f.Name {
			out.Fields[i] = f
		} else {
			out.Fields = slices.Insert(out.Fields, i, f)
		}
	}
	return out
}

func TestNormByRule(t *testing.T) {
	for _, e := range jumbles() {
		wantNorm(t, e, normByRule(e))
	}
}

func TestNormTwice(t *testing.T) {
	for _, e := range append(jumbles(), good(), api.Event{}, api.Event{Tags: tags(100), Fields: fields(100)}) {
		once := Norm(e)
		wantNorm(t, once, once)
		wantSame(t, Norm(once), once, true)
	}
}

// allValid reports whether all texts and numbers of e are valid, whatever their order and amount.
func allValid(e api.Event) bool {
	for _, tag := range e.Tags {
		if May(ofTags(tag)) != api.OK {
			return false
		}
	}
	for _, f := range e.Fields {
		if May(ofFields(f)) != api.OK {
			return false
		}
	}
	return May(api.Event{Stream: e.Stream, Type: e.Type}) == api.OK
}

func TestNormMakesValid(t *testing.T) {
	valid, mended := 0, 0
	for _, e := range jumbles() {
		once := normByRule(e)
		if !allValid(e) || len(once.Tags) > 6 || len(once.Fields) > 4 {
			continue
		}
		wantMay(t, Norm(e), api.OK)
		valid++
		if May(e) != api.OK {
			mended++
		}
	}
	if valid < 100 || mended < 100 {
		t.Errorf("only %d events have valid parts, and %d of them had to be mended", valid, mended)
	}
}

// What is too much ahead of Norm need not be afterwards, and Norm takes nothing away for being too much.
func TestNormAndAmounts(t *testing.T) {
	e := api.Event{Stream: "s", Type: "t", Tags: append(tags(6), tags(6)...), Fields: append(fields(4), fields(4)...)}
	wantMay(t, e, api.ErrBig)
	wantMay(t, Norm(e), api.OK)
	wantMay(t, Norm(ofTags(tags(7)...)), api.ErrBig)
	wantMay(t, Norm(ofFields(fields(5)...)), api.ErrBig)
	wantMay(t, Norm(ofFields(api.Field{Name: "a", N: most + 1}, api.Field{Name: "a", N: 1})), api.OK)
	wantMay(t, Norm(ofFields(api.Field{Name: "a", N: 1}, api.Field{Name: "a", N: most + 1})), api.ErrArg)
}

func FuzzEvent(f *testing.F) {
	f.Add("s", "t", "b:x", "a:y", "b:x", "n", "m", 1, 2, 3)
	f.Add("", "7", "a", "", "\xff", "", "", math.MinInt, math.MaxInt, 0)
	f.Fuzz(func(t *testing.T, stream, kind, tag1, tag2, tag3, name1, name2 string, n1, n2, n3 int) {
		e := api.Event{Stream: stream, Type: kind, Tags: []string{tag1, tag2, tag3}, Fields: []api.Field{{Name: name1, N: n1}, {Name: name2, N: n2}, {Name: name1, N: n3}}}
		once := normByRule(e)
		wantNorm(t, e, once)
		wantNorm(t, once, once)
		wantSame(t, e, once, say(e) == say(once))
		if allValid(e) {
			wantMay(t, once, api.OK)
		}
		wantHas(t, e, tag2, true)
		wantValue(t, once, name1, n3, true)
		wantValue(t, e, name1, n1, true)
	})
}
