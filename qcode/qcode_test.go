package qcode

import (
	"bytes"
	"math"
	"slices"
	"strconv"
	"strings"
	"testing"

	"registrar/api"
	"registrar/num"
	"registrar/query"
)

// number and text are the encodings as the chapter of num words them, by division instead of shifts.
func number(x int) string {
	u := 2 * uint64(x)
	if x < 0 {
		u = -u - 1
	}
	var out []byte
	for ; u >= 128; u /= 128 {
		out = append(out, byte(u%128)+128)
	}
	return string(append(out, byte(u)))
}

func text(s string) string {
	return number(len(s)) + s
}

func texts(l []string) string {
	s := number(len(l))
	for _, x := range l {
		s += text(x)
	}
	return s
}

// wire is the form of a query as P7.1 words it; it checks nothing.
func wire(q api.Query) string {
	s := number(len(q.Clauses))
	for _, c := range q.Clauses {
		s += texts(c.Tags) + texts(c.Types)
	}
	return s
}

// wireDefs is the form of definitions as P7.2 words it; it checks nothing.
func wireDefs(l []api.Def) string {
	s := number(len(l))
	for _, d := range l {
		s += number(d.Kind) + text(d.Field) + wire(d.Query)
	}
	return s
}

// good is a valid query with as many clauses, tags and types as there may be.
func good() api.Query {
	return api.Query{Clauses: []api.Clause{
		{Tags: []string{"a:x", "a:y", "b:x", "\u03bb:\u00df"}, Types: []string{"a", "b", "c-1", "\u00f8"}},
		{Tags: []string{"kunde:x7"}},
		{Types: []string{"bestellt", "gezahlt"}},
		{},
	}}
}

// changed is good with one change.
func changed(change func(q *api.Query)) api.Query {
	q := good()
	change(&q)
	return q
}

// widest is the query with the longest encoding.
func widest() api.Query {
	name := func(c string) string { return c + strings.Repeat("z", 23) }
	var c api.Clause
	for _, x := range []string{"a", "b", "c", "d"} {
		c.Tags = append(c.Tags, name(x)+":"+name(x))
		c.Types = append(c.Types, name(x))
	}
	return api.Query{Clauses: []api.Clause{c, c, c, c}}
}

// goods has valid queries: each amount of clauses, and of tags and types of the first.
func goods() []api.Query {
	l := []api.Query{{}, {Clauses: []api.Clause{}}, {Clauses: []api.Clause{{}}}, widest(),
		{Clauses: []api.Clause{{Tags: []string{}, Types: []string{}}, {}, {}}},
		{Clauses: []api.Clause{{Types: []string{"t"}}, {Types: []string{"t"}}}}}
	for k := range 5 {
		for n := range 5 {
			for m := range 5 {
				l = append(l, changed(func(q *api.Query) {
					q.Clauses[0].Tags, q.Clauses[0].Types = q.Clauses[0].Tags[:n], q.Clauses[0].Types[:m]
					q.Clauses = q.Clauses[:k]
				}))
			}
		}
	}
	return l
}

// wrongs has a query for each error of query.May, and for each place where it may stand.
func wrongs() []api.Query {
	return []api.Query{
		changed(func(q *api.Query) { q.Clauses = append(q.Clauses, api.Clause{}) }),
		changed(func(q *api.Query) { q.Clauses = append(q.Clauses, q.Clauses...) }),
		changed(func(q *api.Query) { q.Clauses = make([]api.Clause, 500) }),
		changed(func(q *api.Query) { q.Clauses[0].Tags = append(q.Clauses[0].Tags, "\u03bb:\u03bb") }),
		changed(func(q *api.Query) { q.Clauses[0].Types = append(q.Clauses[0].Types, "\u03bb") }),
		changed(func(q *api.Query) { q.Clauses[3].Tags = make([]string, 500) }),
		changed(func(q *api.Query) { q.Clauses[3].Types = make([]string, 500) }),
		changed(func(q *api.Query) { q.Clauses[0].Tags[0] = "" }),
		changed(func(q *api.Query) { q.Clauses[0].Tags[3] = "\u03bb" }),
		changed(func(q *api.Query) { q.Clauses[0].Types[0] = "" }),
		changed(func(q *api.Query) { q.Clauses[0].Types[0] = "7" }),
		changed(func(q *api.Query) { q.Clauses[0].Types[3] = "\xff" }),
		changed(func(q *api.Query) { q.Clauses[3].Types = []string{"a:b"} }),
		changed(func(q *api.Query) { q.Clauses[3].Types = []string{strings.Repeat("a", 25)} }),
		changed(func(q *api.Query) { q.Clauses[3].Tags = []string{"a:" + strings.Repeat("a", 25)} }),
		changed(func(q *api.Query) { q.Clauses[0].Tags[1] = q.Clauses[0].Tags[0] }),
		changed(func(q *api.Query) { q.Clauses[0].Types[3] = q.Clauses[0].Types[2] }),
		changed(func(q *api.Query) { slices.Reverse(q.Clauses[0].Tags) }),
		changed(func(q *api.Query) { slices.Reverse(q.Clauses[2].Types) }),
	}
}

// goodDef is a valid definition of a kind; field is for those that fold one.
func goodDef(kind int, field string, q api.Query) api.Def {
	d := api.Def{Kind: kind, Query: q}
	if kind == 2 || kind == 3 {
		d.Field = field
	}
	return d
}

func goodDefs() []api.Def {
	var l []api.Def
	for i, q := range goods() {
		l = append(l, goodDef(i%4+1, "n", q), goodDef(2, "\u03bb-7", q))
	}
	for kind := 1; kind <= 4; kind++ {
		l = append(l, goodDef(kind, "n", good()), goodDef(kind, strings.Repeat("a", 24), widest()), goodDef(kind, "_", api.Query{}))
	}
	return l
}

type faultyDef struct {
	def  api.Def
	want api.Errno
}

// wrongDefs has a definition for each fault of one, and for two at once.
func wrongDefs() []faultyDef {
	var l []faultyDef
	add := func(kind int, field string, q api.Query, want api.Errno) {
		l = append(l, faultyDef{api.Def{Kind: kind, Field: field, Query: q}, want})
	}
	for _, kind := range []int{0, -1, 5, 6, 64, 255, 256 + 1, 1<<32 + 1, math.MinInt, math.MaxInt} {
		add(kind, "", good(), api.ErrArg)
		add(kind, "n", api.Query{}, api.ErrArg)
		add(kind, "", wrongs()[0], api.ErrArg)
		add(kind, "7", wrongs()[9], api.ErrArg)
	}
	for kind := 1; kind <= 4; kind++ {
		for _, q := range wrongs() {
			add(kind, "", q, query.May(q))
			add(kind, "n", q, query.May(q))
			add(kind, "\xff", q, query.May(q))
		}
	}
	for _, field := range []string{"", "7", "-", "a:b", "A", "\xff", strings.Repeat("a", 25), strings.Repeat("a", 5000)} {
		for kind := 1; kind <= 4; kind++ {
			if folds := kind == api.Sum || kind == api.Latest; folds || field != "" {
				add(kind, field, good(), api.ErrName)
				add(kind, field, api.Query{}, api.ErrName)
			}
		}
	}
	add(api.Count, "n", good(), api.ErrName)
	add(api.Members, "n", good(), api.ErrName)
	return l
}

// say writes a query out, each text in quotes, so that two queries have the same text only if they are equal.
func say(q api.Query) string {
	s := strconv.Itoa(len(q.Clauses)) + " clauses"
	for _, c := range q.Clauses {
		s += " {"
		for _, tag := range c.Tags {
			s += " " + strconv.Quote(tag)
		}
		s += " ;"
		for _, kind := range c.Types {
			s += " " + strconv.Quote(kind)
		}
		s += " }"
	}
	return s
}

func sayDef(d api.Def) string {
	return strconv.Itoa(d.Kind) + " " + strconv.Quote(d.Field) + " " + say(d.Query)
}

func sayDefs(l []api.Def) string {
	s := strconv.Itoa(len(l)) + " definitions"
	for _, d := range l {
		s += "\n" + sayDef(d)
	}
	return s
}

func wantPut(t *testing.T, b string, q api.Query, want string) {
	t.Helper()
	if got, code := Put([]byte(b), q); string(got) != want || code != api.OK {
		t.Errorf("Put(%x, %s) is %x, %d, want %x", b, say(q), got, code, want)
	}
}

// wantTaken fails unless r has q next.
func wantTaken(t *testing.T, r *num.Reader, q api.Query) {
	t.Helper()
	if got, code := Take(r); code != api.OK || say(got) != say(q) || r.Bad() {
		t.Errorf("Take is %s, %d, Bad %v, want %s", say(got), code, r.Bad(), say(q))
	}
}

// wantCorrupt fails unless Take finds no query at the beginning of b, and r is bad afterwards if bad says so.
func wantCorrupt(t *testing.T, what, b string, bad bool) {
	t.Helper()
	r := num.NewReader([]byte(b))
	wantRefused(t, what, r)
	if r.Bad() != bad {
		t.Errorf("%s: after Take of %x Bad is %v", what, b, r.Bad())
	}
	if !bad && r.Left() != len(b) {
		t.Errorf("%s: Take of %x with an error leaves %d of %d bytes", what, b, r.Left(), len(b))
	}
	wantNoDefs(t, what, number(1)+number(1)+text("")+b)
	wantNoDefs(t, what, number(2)+number(4)+text("")+wire(good())+number(2)+text("n")+b)
}

func wantRefused(t *testing.T, what string, r *num.Reader) {
	t.Helper()
	if q, code := Take(r); code != api.ErrCorrupt || q.Clauses != nil {
		t.Errorf("%s: Take is %s, %d, want ErrCorrupt", what, say(q), code)
	}
}

func wantPutDefs(t *testing.T, l []api.Def, want string) {
	t.Helper()
	if got, code := PutDefs(l); string(got) != want || code != api.OK {
		t.Errorf("PutDefs of %s is %x, %d, want %x", sayDefs(l), got, code, want)
	}
}

func wantDefs(t *testing.T, b string, want []api.Def) {
	t.Helper()
	if got, code := TakeDefs([]byte(b)); code != api.OK || sayDefs(got) != sayDefs(want) {
		t.Errorf("TakeDefs(%x) is %s, %d, want %s", b, sayDefs(got), code, sayDefs(want))
	}
}

func wantNoDefs(t *testing.T, what, b string) {
	t.Helper()
	if l, code := TakeDefs([]byte(b)); code != api.ErrCorrupt || l != nil {
		t.Errorf("%s: TakeDefs(%x) is %s, %d, want ErrCorrupt", what, b, sayDefs(l), code)
	}
}

// P7.1: Put

func TestPutExamples(t *testing.T) {
	wantPut(t, "", api.Query{Clauses: []api.Clause{{}}}, "\x02\x00\x00")
	wantPut(t, "", api.Query{}, "\x00")
	wantPut(t, "", api.Query{Clauses: []api.Clause{{Tags: []string{"a:x", "b:yy"}}}}, "\x02\x04\x06a:x\x08b:yy\x00")
	wantPut(t, "", api.Query{Clauses: []api.Clause{{Types: []string{"t"}}, {Tags: []string{"a:x"}, Types: []string{"u", "\u03bb"}}}},
		"\x04\x00\x02\x02t\x02\x06a:x\x04\x02u\x04\xce\xbb")
}

func TestPutFollowsTheForm(t *testing.T) {
	for _, q := range goods() {
		for _, b := range []string{"", "\x00", "\x80", "abc", wire(good())} {
			wantPut(t, b, q, b+wire(q))
		}
	}
	if b, code := Put(nil, good()); string(b) != wire(good()) || code != api.OK {
		t.Errorf("Put behind nil is %x, %d", b, code)
	}
}

// The errors are those of query.May, and no bytes come with them.
func TestPutErrors(t *testing.T) {
	for _, q := range wrongs() {
		want := query.May(q)
		if want == api.OK {
			t.Fatalf("%s is valid", say(q))
		}
		for _, b := range [][]byte{nil, {}, []byte("abc")} {
			if got, code := Put(b, q); code != want || got != nil {
				t.Errorf("Put(%x, %s) is %x, %d, want %d", b, say(q), got, code, want)
			}
		}
	}
	for _, c := range []struct {
		change func(q *api.Query)
		want   api.Errno
	}{
		{func(q *api.Query) { q.Clauses = make([]api.Clause, 5) }, api.ErrBig},
		{func(q *api.Query) { q.Clauses[0].Tags[0] = "a" }, api.ErrName},
		{func(q *api.Query) { slices.Reverse(q.Clauses[0].Types) }, api.ErrArg},
		{func(q *api.Query) { slices.Reverse(q.Clauses[0].Types); q.Clauses[1].Tags[0] = "a" }, api.ErrName},
		{func(q *api.Query) { q.Clauses[0].Types[0] = ""; q.Clauses[3].Tags = make([]string, 5) }, api.ErrBig},
	} {
		if b, code := Put(nil, changed(c.change)); code != c.want || b != nil {
			t.Errorf("Put(%s) is %x, %d, want %d", say(changed(c.change)), b, code, c.want)
		}
	}
}

// clearQuery overwrites all that q has.
func clearQuery(q api.Query) {
	for _, c := range q.Clauses {
		clear(c.Tags[:cap(c.Tags)])
		clear(c.Types[:cap(c.Types)])
	}
	clear(q.Clauses[:cap(q.Clauses)])
}

// R7: neither b nor what lies behind it changes, and each answer is new memory.
func TestPutLeavesItsArguments(t *testing.T) {
	for n := range 5 {
		whole := bytes.Repeat([]byte{7}, 1000)
		q := good()
		first, _ := Put(whole[:n], q)
		if !bytes.Equal(whole, bytes.Repeat([]byte{7}, 1000)) || say(q) != say(good()) {
			t.Errorf("Put changed its arguments: %x, %s", whole, say(q))
		}
		want := strings.Repeat("\x07", n) + wire(good())
		clear(whole)
		clearQuery(q)
		second, _ := Put(whole[:n], good())
		clear(second[:cap(second)])
		if string(first) != want {
			t.Errorf("what was answered became %x, was %x", first, want)
		}
	}
}

// P7.1: Take

func TestTakeExamples(t *testing.T) {
	for _, q := range goods() {
		r := num.NewReader([]byte(wire(q)))
		wantTaken(t, r, q)
		if r.Left() != 0 {
			t.Errorf("%s: %d bytes are left", say(q), r.Left())
		}
	}
	got, code := Take(num.NewReader([]byte("\x04\x00\x02\x02t\x02\x06a:x\x04\x02u\x04\xce\xbb")))
	want := api.Query{Clauses: []api.Clause{{Types: []string{"t"}}, {Tags: []string{"a:x"}, Types: []string{"u", "\u03bb"}}}}
	if code != api.OK || say(got) != say(want) {
		t.Errorf("Take is %s, %d, want %s", say(got), code, say(want))
	}
}

// Take begins where the reader stands, and leaves what follows the query, whatever that is.
func TestTakeInTheMiddle(t *testing.T) {
	var all strings.Builder
	for _, q := range goods() {
		for _, rest := range []string{"", "\x00", "\x80", "\xff\xff", wire(good())} {
			r := num.NewReader([]byte(number(-7) + wire(q) + rest))
			if x := r.Num(); x != -7 {
				t.Fatalf("Num is %d", x)
			}
			wantTaken(t, r, q)
			if r.Left() != len(rest) {
				t.Errorf("%s: %d bytes are left, want %d", say(q), r.Left(), len(rest))
			}
		}
		all.WriteString(wire(q))
	}
	r := num.NewReader([]byte(all.String()))
	for _, q := range goods() {
		wantTaken(t, r, q)
	}
	wantRefused(t, "behind the last query", r)
}

func TestTakeWithoutBytes(t *testing.T) {
	wantRefused(t, "nil reader", nil)
	for _, r := range []*num.Reader{num.NewReader(nil), num.NewReader([]byte{}), {}} {
		wantRefused(t, "no bytes", r)
		if !r.Bad() {
			t.Error("no bytes: the reader is not bad")
		}
	}
}

func TestTakeOfBadReader(t *testing.T) {
	r := num.NewReader([]byte("\x01" + wire(good())))
	r.Text()
	for range 3 {
		wantRefused(t, "bad reader", r)
		if !r.Bad() {
			t.Error("the reader is not bad any more")
		}
	}
}

// Wherever a query ends too soon, also between two of its parts, the reader is bad afterwards.
func TestTakeOfTruncated(t *testing.T) {
	for _, q := range append(goods(), wrongs()...) {
		b := wire(q)
		for n := range len(b) {
			wantCorrupt(t, "truncated", b[:n], true)
		}
	}
}

func TestTakeNegativeCounts(t *testing.T) {
	for _, n := range []int{-1, -2, -4, -64, -65, math.MinInt, math.MinInt + 1} {
		for _, rest := range []string{"", "\x00", "\x00\x00", "\x06a:x\x00", "\x02t", wire(good())} {
			wantCorrupt(t, "negative number of clauses", number(n)+rest, false)
			wantCorrupt(t, "negative number of tags", "\x02"+number(n)+rest, false)
			wantCorrupt(t, "negative number of types", "\x02\x00"+number(n)+rest, false)
			wantCorrupt(t, "negative number of types", "\x04\x02\x06a:x"+number(n)+rest, false)
			wantCorrupt(t, "negative number of tags", "\x04\x00\x00"+number(n)+rest, false)
		}
		wantNoDefs(t, "negative number of definitions", number(n))
		wantNoDefs(t, "negative number of definitions", number(n)+wireDefs(nil))
	}
}

// A count over what the bytes hold takes neither time nor memory.
func TestTakeHugeCounts(t *testing.T) {
	for _, n := range []int{3, 7, 64, 1 << 20, 1 << 40, 1 << 62, math.MaxInt} {
		wantCorrupt(t, "huge number of clauses", number(n), true)
		wantCorrupt(t, "huge number of clauses", number(n)+"\x00\x00\x00\x00", true)
		for _, rest := range []string{"", "\x06a:x", "\x06a:x\x00\x80"} {
			wantCorrupt(t, "huge number of tags", "\x02"+number(n)+rest, true)
			wantCorrupt(t, "huge number of types", "\x02\x00"+number(n)+rest, true)
		}
		wantNoDefs(t, "huge number of definitions", number(n))
		wantNoDefs(t, "huge number of definitions", number(n)+"\x02\x00\x00\x02\x00\x00")
	}
}

func TestTakeOfInvalid(t *testing.T) {
	for _, q := range wrongs() {
		wantCorrupt(t, "invalid query", wire(q), false)
		wantCorrupt(t, "invalid query and more", wire(q)+wire(good()), false)
	}
}

// A long list that is there as a whole is too much all the same, and costs no memory for each item.
func TestTakeOfLongLists(t *testing.T) {
	many := 1 << 20
	for _, b := range []string{
		number(many) + strings.Repeat("\x00\x00", many),
		"\x02" + number(many) + strings.Repeat("\x00", many) + "\x00",
		"\x02\x00" + number(many) + strings.Repeat("\x00", many),
	} {
		wantCorrupt(t, "many", b, false)
		r := num.NewReader([]byte(b))
		if n := testing.AllocsPerRun(3, func() { Take(r) }); n > 20 {
			t.Errorf("Take of %d items allocates %v times", many, n)
		}
		if r.Left() != len(b) {
			t.Errorf("%d of %d bytes are left", r.Left(), len(b))
		}
	}
	wantNoDefs(t, "many definitions", number(many)+strings.Repeat("\x02\x00\x00", many))
}

// A number that is not written as briefly as may be is none.
func TestTakeOtherForms(t *testing.T) {
	for _, b := range []string{
		"\x80\x00", "\x82\x00\x00\x00", "\x02\x80\x00\x00", "\x02\x00\x80\x00", "\x02\x00\x82\x00\x02t", "\x02\x00\x02\x82\x00t",
		"\x02\x82\x00\x06a:x\x00", "\x02\x02\x86\x00a:x\x00", "\x02\x02\x01\x00", "\x02\x00\x02\x01",
	} {
		wantCorrupt(t, "other form", b, true)
		wantCorrupt(t, "other form and more", b+"\x00\x00\x00", true)
	}
}

// R2: with an error the reader stands where it stood, so that what is there can be read otherwise.
func TestTakeWithAnErrorLeavesTheReader(t *testing.T) {
	r := num.NewReader([]byte(wire(good()) + "\x06abc\x00\x00\x00" + "\x02"))
	wantTaken(t, r, good())
	for range 3 {
		q, code := Take(r) // three clauses, of which the first has a negative number of tags
		if code != api.ErrCorrupt || q.Clauses != nil {
			t.Errorf("Take is %s, %d", say(q), code)
		}
	}
	if s, x := r.Text(), r.Num(); s != "abc" || x != 0 || r.Left() != 3 {
		t.Errorf("behind the refused query stand %q, %d, and %d bytes more", s, x, r.Left())
	}
}

// The reader's bytes and a query that was taken share no memory, and no two queries do.
func TestTakeAnswersNewMemory(t *testing.T) {
	b := []byte(wire(good()) + wire(good()))
	r := num.NewReader(b)
	first, _ := Take(r)
	second, _ := Take(r)
	if string(b) != wire(good())+wire(good()) {
		t.Errorf("the bytes became %x", b)
	}
	clear(b)
	clearQuery(second)
	if say(first) != say(good()) {
		t.Errorf("what was taken became %s", say(first))
	}
}

// No two lists of one answer share memory, also where they have the same items.
func TestListsStandApart(t *testing.T) {
	q, _ := Take(num.NewReader([]byte(wire(widest()))))
	var lists [][]string
	for _, c := range q.Clauses {
		lists = append(lists, c.Tags, c.Types)
	}
	for i, l := range lists {
		clear(l[:cap(l)])
		if slices.ContainsFunc(lists[i+1:], func(other []string) bool { return slices.Contains(other, "") }) {
			t.Errorf("list %d is not alone", i)
		}
	}
}

// P7.2: MayDef

func wantMay(t *testing.T, d api.Def, want api.Errno) {
	t.Helper()
	if code := MayDef(d); code != want {
		t.Errorf("MayDef(%s) is %d, want %d", sayDef(d), code, want)
	}
}

func TestMayDefExamples(t *testing.T) {
	wantMay(t, api.Def{}, api.ErrArg)
	for kind := 1; kind <= 4; kind++ {
		folds := kind == 2 || kind == 3 // a Sum and a Latest
		for _, c := range []struct {
			field  string
			is, no api.Errno
		}{{"n", api.OK, api.ErrName}, {"", api.ErrName, api.OK}, {"7", api.ErrName, api.ErrName}} {
			want := c.no
			if folds {
				want = c.is
			}
			wantMay(t, api.Def{Kind: kind, Field: c.field}, want)
			wantMay(t, api.Def{Kind: kind, Field: c.field, Query: good()}, want)
		}
	}
}

func TestMayDef(t *testing.T) {
	for _, d := range goodDefs() {
		wantMay(t, d, api.OK)
	}
	for _, c := range wrongDefs() {
		wantMay(t, c.def, c.want)
	}
}

// P7.2: PutDefs

func TestPutDefsExamples(t *testing.T) {
	wantPutDefs(t, nil, "\x00")
	wantPutDefs(t, []api.Def{}, "\x00")
	wantPutDefs(t, []api.Def{{Kind: api.Count}}, "\x02\x02\x00\x00")
	wantPutDefs(t, []api.Def{{Kind: api.Members, Query: api.Query{Clauses: []api.Clause{{}}}}, {Kind: api.Sum, Field: "nn"}},
		"\x04\x08\x00\x02\x00\x00\x04\x04nn\x00")
	wantPutDefs(t, []api.Def{{Kind: api.Latest, Field: "\u03bb", Query: api.Query{Clauses: []api.Clause{{Tags: []string{"a:x"}, Types: []string{"t"}}}}}},
		"\x02\x06\x04\xce\xbb\x02\x02\x06a:x\x02\x02t")
}

func TestPutDefsFollowsTheForm(t *testing.T) {
	l := goodDefs()
	for i := range l {
		for n := range min(4, len(l)-i) + 1 {
			wantPutDefs(t, l[i:i+n], wireDefs(l[i:i+n]))
		}
	}
	same := slices.Repeat([]api.Def{goodDef(2, "n", widest())}, 4)
	wantPutDefs(t, same, wireDefs(same))
}

func wantPutDefsError(t *testing.T, l []api.Def, want api.Errno) {
	t.Helper()
	if b, code := PutDefs(l); code != want || b != nil {
		t.Errorf("PutDefs of %s is %x, %d, want %d", sayDefs(l), b, code, want)
	}
}

// Too many definitions are told ahead of what is wrong with one, and then the first one's error.
func TestPutDefsErrors(t *testing.T) {
	ok := goodDef(3, "n", good())
	for i, c := range wrongDefs() {
		other := wrongDefs()[(i*7+40)%len(wrongDefs())]
		wantPutDefsError(t, []api.Def{c.def}, c.want)
		wantPutDefsError(t, []api.Def{ok, ok, ok, c.def}, c.want)
		wantPutDefsError(t, []api.Def{c.def, other.def}, c.want)
		wantPutDefsError(t, []api.Def{ok, other.def, c.def}, other.want)
		wantPutDefsError(t, []api.Def{c.def, ok, ok, ok, ok}, api.ErrBig)
		wantPutDefsError(t, []api.Def{ok, ok, ok, ok, c.def}, api.ErrBig)
	}
	for _, n := range []int{5, 6, 500} {
		wantPutDefsError(t, slices.Repeat([]api.Def{ok}, n), api.ErrBig)
		wantPutDefsError(t, make([]api.Def, n), api.ErrBig)
	}
	first := api.Def{Kind: 2, Query: good()} // of all the errors of the two, that which MayDef names last
	wantPutDefsError(t, []api.Def{first, {}}, api.ErrName)
	wantPutDefsError(t, []api.Def{{}, first}, api.ErrArg)
}

// R7
func TestPutDefsLeavesItsArguments(t *testing.T) {
	l := make([]api.Def, 2, 8)
	l[0], l[1] = goodDef(2, "n", good()), goodDef(4, "", widest())
	want := wireDefs(l)
	first, _ := PutDefs(l)
	if wireDefs(l) != want || l[:3][2].Kind != 0 {
		t.Errorf("PutDefs changed its argument: %s", sayDefs(l[:3]))
	}
	second, _ := PutDefs(l)
	clearQuery(l[0].Query)
	clear(l)
	clear(second[:cap(second)])
	if string(first) != want {
		t.Errorf("what was answered became %x, was %x", first, want)
	}
}

// P7.2: TakeDefs

func TestTakeDefsExamples(t *testing.T) {
	wantDefs(t, "\x00", nil)
	wantDefs(t, "\x02\x02\x00\x00", []api.Def{{Kind: api.Count}})
	wantDefs(t, "\x04\x08\x00\x02\x00\x00\x04\x04nn\x00",
		[]api.Def{{Kind: api.Members, Query: api.Query{Clauses: []api.Clause{{}}}}, {Kind: api.Sum, Field: "nn"}})
	for _, b := range []string{"", "\x02", "\x02\x00\x00\x00", "\x02\x0a\x00\x00", "\x02\x01\x00\x00", "\x02\x02\x02n\x00", "\x02\x04\x00\x00"} {
		wantNoDefs(t, "example", b)
	}
	wantNoDefs(t, "nil", string([]byte(nil)))
	if l, code := TakeDefs(nil); code != api.ErrCorrupt || l != nil {
		t.Errorf("TakeDefs(nil) is %s, %d", sayDefs(l), code)
	}
}

// P7.3
func TestDefsComeBack(t *testing.T) {
	l := goodDefs()
	for i := range l {
		for n := range min(4, len(l)-i) + 1 {
			b, code := PutDefs(l[i : i+n])
			if code != api.OK {
				t.Fatalf("PutDefs of %s is %d", sayDefs(l[i:i+n]), code)
			}
			wantDefs(t, string(b), l[i:i+n])
		}
	}
}

func TestQueriesComeBack(t *testing.T) {
	var b []byte
	for _, q := range goods() {
		one, code := Put(nil, q)
		if code != api.OK {
			t.Fatalf("Put(%s) is %d", say(q), code)
		}
		wantTaken(t, num.NewReader(one), q)
		b, _ = Put(b, q)
	}
	r := num.NewReader(b)
	for _, q := range goods() {
		wantTaken(t, r, q)
	}
	if r.Left() != 0 || r.Bad() {
		t.Errorf("%d bytes are left, Bad %v", r.Left(), r.Bad())
	}
}

// What PutDefs would refuse is none, though the form is right.
func TestTakeDefsOfInvalid(t *testing.T) {
	ok := goodDef(3, "n", good())
	for _, c := range wrongDefs() {
		for _, l := range [][]api.Def{{c.def}, {ok, c.def}, {c.def, ok}, {ok, ok, c.def, ok}} {
			wantNoDefs(t, "invalid", wireDefs(l))
		}
	}
	for n := 5; n < 9; n++ {
		wantNoDefs(t, "too many", wireDefs(slices.Repeat([]api.Def{ok}, n)))
		wantNoDefs(t, "too many", wireDefs(slices.Repeat([]api.Def{{Kind: 1}}, n)))
	}
}

// Nothing may be left behind the definitions, and nothing be missing.
func TestTakeDefsWithMoreOrLess(t *testing.T) {
	l := goodDefs()
	for i := 0; i+4 <= len(l); i += 3 {
		b := wireDefs(l[i : i+4])
		for n := range len(b) {
			wantNoDefs(t, "truncated", b[:n])
		}
		for _, rest := range []string{"\x00", "\x02", "\x80", "\xff", b} {
			wantNoDefs(t, "more", b+rest)
			wantNoDefs(t, "more", "\x00"+rest)
		}
		wantNoDefs(t, "one less is told", number(3)+b[1:])
	}
}

func TestTakeDefsOtherForms(t *testing.T) {
	for _, b := range []string{"\x80\x00", "\x82\x00\x02\x00\x00", "\x02\x82\x00\x00\x00", "\x02\x02\x80\x00\x00", "\x02\x02\x01\x00", "\x02\x04\x82\x00n\x00"} {
		wantNoDefs(t, "other form", b)
	}
}

// R7
func TestTakeDefsLeavesItsArgument(t *testing.T) {
	l := []api.Def{goodDef(2, "n", good()), goodDef(1, "", good())}
	b := []byte(wireDefs(l))
	got, _ := TakeDefs(b)
	again, _ := TakeDefs(b)
	if string(b) != wireDefs(l) {
		t.Errorf("the bytes became %x", b)
	}
	clear(b)
	clearQuery(got[1].Query)
	clear(got[1:cap(got)])
	for _, d := range again {
		clearQuery(d.Query)
	}
	if sayDef(got[0]) != sayDef(l[0]) {
		t.Errorf("what was answered became %s", sayDef(got[0]))
	}
}

// wantCanonical fails unless b is refused, or is just what PutDefs makes of the definitions found in it.
func wantCanonical(t *testing.T, b []byte) int {
	t.Helper()
	l, code := TakeDefs(b)
	if code != api.OK {
		if code != api.ErrCorrupt || l != nil {
			t.Errorf("TakeDefs(%x) is %s, %d", b, sayDefs(l), code)
		}
		return 0
	}
	for _, d := range l {
		wantMay(t, d, api.OK)
	}
	if wireDefs(l) != string(b) {
		t.Errorf("TakeDefs(%x) is taken for %x", b, wireDefs(l))
	}
	return 1
}

// All short rows of a few bytes: those that are definitions are known by their form, and no others are taken.
func TestTakeDefsOfShortRows(t *testing.T) {
	const letters = "\x00\x01\x02\x04\x06n"
	known := map[string]bool{wireDefs(nil): true}
	queries := []api.Query{{}, {Clauses: []api.Clause{{}}}, {Clauses: []api.Clause{{}, {}}},
		{Clauses: []api.Clause{{Types: []string{"n"}}}}, {Clauses: []api.Clause{{}, {}, {}}}}
	var defs []api.Def
	for _, q := range queries {
		for kind := 1; kind <= 4; kind++ {
			defs = append(defs, goodDef(kind, "n", q), goodDef(kind, "nn", q), goodDef(kind, "nnn", q))
		}
	}
	for _, d := range defs {
		known[wireDefs([]api.Def{d})] = true
		for _, e := range defs {
			known[wireDefs([]api.Def{d, e})] = true
		}
	}
	for size := 1; size <= 8; size++ {
		total := 1
		for range size {
			total *= len(letters)
		}
		b := make([]byte, size)
		for k := range total {
			for i := range b {
				b[i] = letters[k%len(letters)]
				k /= len(letters)
			}
			if _, code := TakeDefs(b); (code == api.OK) != known[string(b)] {
				t.Fatalf("TakeDefs(%x) is %d, definitions: %v", b, code, known[string(b)])
			}
		}
	}
}

// Each byte of some definitions is changed to each other one.
func TestTakeDefsOfChangedBytes(t *testing.T) {
	taken := 0
	for _, l := range [][]api.Def{{}, {goodDef(2, "n", good()), goodDef(1, "", good())}, {goodDef(3, "n", widest())}} {
		b := []byte(wireDefs(l))
		for i, was := range b {
			for c := range 256 {
				b[i] = byte(c)
				taken += wantCanonical(t, b)
			}
			b[i] = was
		}
	}
	if taken < 1000 {
		t.Errorf("only %d changed definitions are valid", taken)
	}
}

func FuzzTakeDefs(f *testing.F) {
	for i, d := range goodDefs() {
		f.Add([]byte(wireDefs([]api.Def{d})))
		f.Add([]byte(wireDefs(goodDefs()[:i%5])))
		f.Add([]byte(wire(d.Query)))
	}
	for _, c := range wrongDefs() {
		f.Add([]byte(wireDefs([]api.Def{c.def})))
	}
	f.Fuzz(func(t *testing.T, b []byte) {
		wantCanonical(t, b)
		r := num.NewReader(b)
		for r.Left() > 0 {
			left := r.Left()
			q, code := Take(r)
			if code != api.OK {
				if !r.Bad() && r.Left() != left || q.Clauses != nil {
					t.Fatalf("%x: an error leaves %d of %d bytes, with %s", b, r.Left(), left, say(q))
				}
				return
			}
			if r.Bad() || query.May(q) != api.OK || left-r.Left() != len(wire(q)) {
				t.Fatalf("%x: %s was taken for %d bytes", b, say(q), left-r.Left())
			}
		}
	})
}
