package evcode

import (
	"bytes"
	"math"
	"slices"
	"strconv"
	"strings"
	"testing"

	"registrar/api"
	"registrar/event"
	"registrar/num"
)

// most is the greatest number of a field, written out as the chapter of events has it.
const most = 1099511627776

// number and text are the encodings as the chapter of num words them, by division instead of shifts.
func number(x int) string {
	u := 2 * uint64(x)
	if x < 0 {
		u = -u - 1
	}
	var out []byte
	for ; u >= 128; u /= 128 {
		out = append(out, byte(u%128)+128)
	}
	return string(append(out, byte(u)))
}

func text(s string) string {
	return number(len(s)) + s
}

// wire is the form of an event as P5.1 words it; it checks nothing.
func wire(e api.Event) string {
	s := text(e.Stream) + text(e.Type) + number(len(e.Tags))
	for _, tag := range e.Tags {
		s += text(tag)
	}
	s += number(len(e.Fields))
	for _, f := range e.Fields {
		s += text(f.Name) + number(f.N)
	}
	return s
}

func wires(l []api.Event) string {
	var s strings.Builder
	for _, e := range l {
		s.WriteString(wire(e))
	}
	return s.String()
}

// good is a valid event with as many tags and fields as there may be, the numbers at both edges.
func good() api.Event {
	return api.Event{
		Stream: "kunde-7", Type: "bestellt",
		Tags:   []string{"a:x", "a:y", "aa:x", "b:a", "\u00e9:a", "\u03bb:\u00df"},
		Fields: []api.Field{{Name: "_a", N: -most}, {Name: "a", N: most}, {Name: "b", N: 0}, {Name: "\u00f8", N: 1}},
	}
}

// changed is good with one change.
func changed(change func(e *api.Event)) api.Event {
	e := good()
	change(&e)
	return e
}

// widest is the event with the longest encoding: each name has 24 bytes, each number is far from 0.
func widest() api.Event {
	name := func(c string) string { return c + strings.Repeat("z", 23) }
	e := api.Event{Stream: name("s"), Type: name("t")}
	for _, c := range []string{"a", "b", "c", "d", "e", "f"} {
		e.Tags = append(e.Tags, name(c)+":"+name(c))
	}
	for _, c := range []string{"a", "b", "c", "d"} {
		e.Fields = append(e.Fields, api.Field{Name: name(c), N: most})
	}
	return e
}

// goods has valid events: each amount of tags and fields, and numbers around those at which an encoding grows.
func goods() []api.Event {
	l := []api.Event{{Stream: "s", Type: "t"}, {Stream: "s", Type: "s", Tags: []string{}, Fields: []api.Field{}}, widest()}
	for n := range 7 {
		for m := range 5 {
			l = append(l, changed(func(e *api.Event) { e.Tags, e.Fields = e.Tags[:n], e.Fields[:m] }))
		}
	}
	for _, n := range []int{0, 1, -1, 63, 64, -64, -65, 8191, 8192, -8192, -8193, most - 1, most, 1 - most, -most} {
		l = append(l, api.Event{Stream: "s", Type: "t", Fields: []api.Field{{Name: "n", N: n}}})
	}
	for n := 1; n <= 24; n++ {
		l = append(l, api.Event{Stream: strings.Repeat("a", n), Type: strings.Repeat("b", 25-n)})
	}
	return l
}

// wrongs has an event for each error of event.May, and for each place where it may stand.
func wrongs() []api.Event {
	return []api.Event{
		{},
		{Stream: "s"},
		{Type: "t"},
		changed(func(e *api.Event) { e.Stream = "7" }),
		changed(func(e *api.Event) { e.Stream = strings.Repeat("a", 25) }),
		changed(func(e *api.Event) { e.Type = "\xff" }),
		changed(func(e *api.Event) { e.Tags = append(e.Tags, "\u03bb:\u03bb") }),
		changed(func(e *api.Event) { e.Tags = append(e.Tags, e.Tags...) }),
		changed(func(e *api.Event) { e.Tags = make([]string, 500) }),
		changed(func(e *api.Event) { e.Fields = append(e.Fields, api.Field{Name: "\u03bb"}) }),
		changed(func(e *api.Event) { e.Fields = make([]api.Field, 500) }),
		changed(func(e *api.Event) { e.Tags[0] = "" }),
		changed(func(e *api.Event) { e.Tags[5] = "\u03bb" }),
		changed(func(e *api.Event) { e.Fields[0].Name = "" }),
		changed(func(e *api.Event) { e.Fields[3].Name = "\u03bb:a" }),
		changed(func(e *api.Event) { e.Tags[1] = e.Tags[0] }),
		changed(func(e *api.Event) { e.Tags[4], e.Tags[5] = e.Tags[5], e.Tags[4] }),
		changed(func(e *api.Event) { e.Fields[1].Name = "_a" }),
		changed(func(e *api.Event) { e.Fields[2], e.Fields[3] = e.Fields[3], e.Fields[2] }),
		changed(func(e *api.Event) { e.Fields[0].N = -most - 1 }),
		changed(func(e *api.Event) { e.Fields[3].N = most + 1 }),
		changed(func(e *api.Event) { e.Fields[3].N = math.MinInt }),
		changed(func(e *api.Event) { e.Fields[3].N = math.MaxInt }),
	}
}

// say writes an event out, each text in quotes, so that two events have the same text only if they are equal.
func say(e api.Event) string {
	s := strconv.Quote(e.Stream) + " " + strconv.Quote(e.Type) + " ["
	for _, tag := range e.Tags {
		s += " " + strconv.Quote(tag)
	}
	s += " ] ["
	for _, f := range e.Fields {
		s += " " + strconv.Quote(f.Name) + "=" + strconv.Itoa(f.N)
	}
	return s + " ]"
}

func isZero(e api.Event) bool {
	return e.Stream == "" && e.Type == "" && e.Tags == nil && e.Fields == nil
}

func wantPut(t *testing.T, b string, e api.Event, want string) {
	t.Helper()
	if got, code := Put([]byte(b), e); string(got) != want || code != api.OK {
		t.Errorf("Put(%x, %s) is %x, %d, want %x", b, say(e), got, code, want)
	}
}

// wantTaken fails unless r has e next.
func wantTaken(t *testing.T, r *num.Reader, e api.Event) {
	t.Helper()
	if got, code := Take(r); code != api.OK || say(got) != say(e) || r.Bad() {
		t.Errorf("Take is %s, %d, Bad %v, want %s", say(got), code, r.Bad(), say(e))
	}
}

// wantCorrupt fails unless Take finds no event at the beginning of b, and r is bad afterwards if bad says so.
func wantCorrupt(t *testing.T, what, b string, bad bool) {
	t.Helper()
	r := num.NewReader([]byte(b))
	wantRefused(t, what, r)
	if r.Bad() != bad {
		t.Errorf("%s: after Take of %x Bad is %v", what, b, r.Bad())
	}
	if !bad && r.Left() != len(b) {
		t.Errorf("%s: Take of %x with an error leaves %d of %d bytes", what, b, r.Left(), len(b))
	}
	wantNone(t, what, b)
}

func wantRefused(t *testing.T, what string, r *num.Reader) {
	t.Helper()
	if e, code := Take(r); code != api.ErrCorrupt || !isZero(e) {
		t.Errorf("%s: Take is %s, %d, want ErrCorrupt", what, say(e), code)
	}
}

func wantAll(t *testing.T, b string, want []api.Event) {
	t.Helper()
	got, code := All([]byte(b))
	if code != api.OK || !slices.EqualFunc(got, want, func(a, b api.Event) bool { return say(a) == say(b) }) {
		t.Errorf("All(%x) is %d events, %d, want %d", b, len(got), code, len(want))
	}
}

func wantNone(t *testing.T, what, b string) {
	t.Helper()
	if l, code := All([]byte(b)); code != api.ErrCorrupt || l != nil {
		t.Errorf("%s: All(%x) is %d events, %d, want ErrCorrupt", what, b, len(l), code)
	}
}

// P5.1: Put

func TestPutExamples(t *testing.T) {
	wantPut(t, "", api.Event{Stream: "s", Type: "t"}, "\x02\x73\x02\x74\x00\x00")
	wantPut(t, "", api.Event{Stream: "s", Type: "t", Tags: []string{"a:x", "b:y"}}, "\x02s\x02t\x04\x06a:x\x06b:y\x00")
	wantPut(t, "", api.Event{Stream: "s", Type: "t", Fields: []api.Field{{Name: "m", N: 64}, {Name: "nn", N: -1}}}, "\x02s\x02t\x00\x04\x02m\x80\x01\x04nn\x01")
	wantPut(t, "", api.Event{Stream: "\u03bb", Type: "t", Tags: []string{"a:x"}, Fields: []api.Field{{Name: "n", N: -most}}}, "\x04\xce\xbb\x02t\x02\x06a:x\x02\x02n\xff\xff\xff\xff\xff\x3f")
}

func TestPutFollowsTheForm(t *testing.T) {
	for _, e := range goods() {
		for _, b := range []string{"", "\x00", "\x80", "abc", wire(good())} {
			wantPut(t, b, e, b+wire(e))
		}
	}
	if b, code := Put(nil, good()); string(b) != wire(good()) || code != api.OK {
		t.Errorf("Put behind nil is %x, %d", b, code)
	}
}

// The errors are those of event.May, and no bytes come with them.
func TestPutErrors(t *testing.T) {
	for _, e := range wrongs() {
		want := event.May(e)
		if want == api.OK {
			t.Fatalf("%s is valid", say(e))
		}
		for _, b := range [][]byte{nil, {}, []byte("abc")} {
			if got, code := Put(b, e); code != want || got != nil {
				t.Errorf("Put(%x, %s) is %x, %d, want %d", b, say(e), got, code, want)
			}
		}
	}
	for _, c := range []struct {
		change func(e *api.Event)
		want   api.Errno
	}{
		{func(e *api.Event) { e.Stream = "" }, api.ErrName},
		{func(e *api.Event) { e.Tags = make([]string, 7) }, api.ErrBig},
		{func(e *api.Event) { e.Fields[0].N-- }, api.ErrArg},
		{func(e *api.Event) { e.Stream, e.Tags, e.Fields[0].N = "", make([]string, 7), most+1 }, api.ErrName},
		{func(e *api.Event) { e.Tags, e.Fields[0].N = make([]string, 7), most+1 }, api.ErrBig},
	} {
		if b, code := Put(nil, changed(c.change)); code != c.want || b != nil {
			t.Errorf("Put(%s) is %x, %d, want %d", say(changed(c.change)), b, code, c.want)
		}
	}
}

// R7: neither b nor what lies behind it changes, and each answer is new memory.
func TestPutLeavesItsArguments(t *testing.T) {
	for n := range 5 {
		whole := bytes.Repeat([]byte{7}, 1000)
		e := good()
		first, _ := Put(whole[:n], e)
		if !bytes.Equal(whole, bytes.Repeat([]byte{7}, 1000)) || say(e) != say(good()) {
			t.Errorf("Put changed its arguments: %x, %s", whole, say(e))
		}
		want := strings.Repeat("\x07", n) + wire(good())
		clear(whole)
		clear(e.Tags)
		clear(e.Fields)
		second, _ := Put(whole[:n], good())
		clear(second[:cap(second)])
		if string(first) != want {
			t.Errorf("what was answered became %x, was %x", first, want)
		}
	}
}

// P5.1: Take

func TestTakeExamples(t *testing.T) {
	for _, e := range goods() {
		r := num.NewReader([]byte(wire(e)))
		wantTaken(t, r, e)
		if r.Left() != 0 {
			t.Errorf("%s: %d bytes are left", say(e), r.Left())
		}
	}
	got, code := Take(num.NewReader([]byte("\x02s\x02t\x04\x06a:x\x06b:y\x04\x02m\x80\x01\x04nn\x01")))
	want := api.Event{Stream: "s", Type: "t", Tags: []string{"a:x", "b:y"}, Fields: []api.Field{{Name: "m", N: 64}, {Name: "nn", N: -1}}}
	if code != api.OK || say(got) != say(want) {
		t.Errorf("Take is %s, %d, want %s", say(got), code, say(want))
	}
}

// Take begins where the reader stands, and leaves what follows the event, whatever that is.
func TestTakeInTheMiddle(t *testing.T) {
	for _, e := range goods() {
		for _, rest := range []string{"", "\x00", "\x80", "\xff\xff", wire(good())} {
			r := num.NewReader([]byte(number(-7) + wire(e) + rest))
			if x := r.Num(); x != -7 {
				t.Fatalf("Num is %d", x)
			}
			wantTaken(t, r, e)
			if r.Left() != len(rest) {
				t.Errorf("%s: %d bytes are left, want %d", say(e), r.Left(), len(rest))
			}
		}
	}
	r := num.NewReader([]byte(wires(goods())))
	for _, e := range goods() {
		wantTaken(t, r, e)
	}
	wantRefused(t, "behind the last event", r)
}

func TestTakeWithoutBytes(t *testing.T) {
	wantRefused(t, "nil reader", nil)
	for _, b := range [][]byte{nil, {}} {
		r := num.NewReader(b)
		wantRefused(t, "no bytes", r)
		if !r.Bad() {
			t.Error("no bytes: the reader is not bad")
		}
	}
}

func TestTakeOfBadReader(t *testing.T) {
	r := num.NewReader([]byte("\x01" + wire(good())))
	r.Text()
	for range 3 {
		wantRefused(t, "bad reader", r)
		if !r.Bad() {
			t.Error("the reader is not bad any more")
		}
	}
}

// Wherever an event ends too soon, also between two of its parts, the reader is bad afterwards.
func TestTakeOfTruncated(t *testing.T) {
	for _, e := range goods() {
		b := wire(e)
		for n := 1; n < len(b); n++ {
			wantCorrupt(t, "truncated", b[:n], true)
		}
	}
	for _, e := range wrongs() {
		b := wire(e)
		for n := 1; n < len(b); n++ {
			wantRefused(t, "truncated", num.NewReader([]byte(b[:n])))
		}
	}
}

func TestTakeNegativeCounts(t *testing.T) {
	for _, n := range []int{-1, -2, -6, -64, -65, math.MinInt, math.MinInt + 1} {
		for _, rest := range []string{"", "\x00", "\x00\x00", "\x06a:x\x00", wire(good())} {
			wantCorrupt(t, "negative number of tags", "\x02s\x02t"+number(n)+rest, false)
			wantCorrupt(t, "negative number of fields", "\x02s\x02t\x00"+number(n)+rest, false)
			wantCorrupt(t, "negative number of fields", "\x02s\x02t\x02\x06a:x"+number(n)+rest, false)
		}
	}
}

// A count over what the bytes hold takes neither time nor memory.
func TestTakeHugeCounts(t *testing.T) {
	for _, n := range []int{2, 7, 64, 1 << 20, 1 << 40, 1 << 62, math.MaxInt} {
		for _, rest := range []string{"", "\x06a:x", "\x06a:x\x00\x80"} {
			wantCorrupt(t, "huge number of tags", "\x02s\x02t"+number(n)+rest, true)
			wantCorrupt(t, "huge number of fields", "\x02s\x02t\x00"+number(n)+rest, true)
		}
	}
}

func TestTakeOfInvalid(t *testing.T) {
	for _, e := range wrongs() {
		wantCorrupt(t, "invalid event", wire(e), false)
		wantCorrupt(t, "invalid event and more", wire(e)+wire(good()), false)
	}
}

// A long list that is there as a whole is too much all the same, and costs no memory for each item.
func TestTakeOfLongLists(t *testing.T) {
	many := 1 << 20
	tags := "\x02s\x02t" + number(many) + strings.Repeat("\x00", many) + "\x00"
	wantCorrupt(t, "many tags", tags, false)
	wantCorrupt(t, "many fields", "\x02s\x02t\x00"+number(many)+strings.Repeat("\x00\x00", many), false)
	r := num.NewReader([]byte(tags))
	if n := testing.AllocsPerRun(3, func() { Take(r) }); n > 20 {
		t.Errorf("Take of %d tags allocates %v times", many, n)
	}
	if r.Left() != len(tags) {
		t.Errorf("%d of %d bytes are left", r.Left(), len(tags))
	}
}

// A number that is not written as briefly as may be is none.
func TestTakeOtherForms(t *testing.T) {
	for _, b := range []string{
		"\x82\x00s\x02t\x00\x00", "\x02s\x82\x00t\x00\x00", "\x02s\x02t\x80\x00\x00", "\x02s\x02t\x00\x80\x00",
		"\x02s\x02t\x00\x02\x82\x00n\x00", "\x02s\x02t\x00\x02\x02n\x80\x00", "\x02s\x02t\x00\x02\x02n\x81\x80\x00",
		"\x02s\x02t\x00\x02\x02n\x80\x80\x80\x80\x80\x80\x80\x80\x80\x02",
		"\x01s\x02t\x00\x00", "\x02s\x03t\x00\x00", "\x02s\x02t\x02\x01\x00",
	} {
		wantCorrupt(t, "other form", b, true)
		wantCorrupt(t, "other form and more", b+"\x00\x00\x00", true)
	}
}

// R2: with an error the reader stands where it stood, so that what is there can be read otherwise.
func TestTakeWithAnErrorLeavesTheReader(t *testing.T) {
	r := num.NewReader([]byte(wire(good()) + "\x06abc\x00\x00\x00" + "\x02"))
	wantTaken(t, r, good())
	for range 3 {
		wantRefused(t, "no type", r)
	}
	if s, x := r.Text(), r.Num(); s != "abc" || x != 0 || r.Left() != 3 {
		t.Errorf("behind the refused event stand %q, %d, and %d bytes more", s, x, r.Left())
	}
}

// The reader's bytes and an event that was taken share no memory, and no two events do.
func TestTakeAnswersNewMemory(t *testing.T) {
	b := []byte(wire(good()) + wire(good()))
	r := num.NewReader(b)
	first, _ := Take(r)
	second, _ := Take(r)
	if string(b) != wire(good())+wire(good()) {
		t.Errorf("the bytes became %x", b)
	}
	clear(b)
	clear(second.Tags[:cap(second.Tags)])
	clear(second.Fields[:cap(second.Fields)])
	if say(first) != say(good()) {
		t.Errorf("what was taken became %s", say(first))
	}
}

// P5.2

func TestAll(t *testing.T) {
	wantAll(t, "", nil)
	if l, code := All(nil); len(l) != 0 || code != api.OK {
		t.Errorf("All of nil is %d events, %d", len(l), code)
	}
	wantAll(t, "\x02s\x02t\x00\x00", []api.Event{{Stream: "s", Type: "t"}})
	for _, e := range goods() {
		wantAll(t, wire(e), []api.Event{e})
		wantAll(t, wire(e)+wire(good())+wire(e), []api.Event{e, good(), e})
	}
	wantAll(t, wires(goods()), goods())
	back := goods()
	slices.Reverse(back)
	wantAll(t, wires(back), back)
}

func TestAllOfMany(t *testing.T) {
	many := slices.Repeat(goods(), 500)
	wantAll(t, wires(many), many)
}

// One fault is enough, wherever it stands, and no event comes with the error.
func TestAllWithAFault(t *testing.T) {
	whole := wire(good())
	faults := []string{"\x00", "\x80", "\x02s", "\x00\x00\x00\x00", "\x02s\x02t\x01", "\x02s\x02t\x00\x01\x00", whole[:len(whole)-1], whole[1:]}
	for _, e := range wrongs() {
		faults = append(faults, wire(e))
	}
	for _, fault := range faults {
		wantNone(t, "alone", fault)
		wantNone(t, "first", fault+whole)
		wantNone(t, "last", whole+whole+fault)
		wantNone(t, "in the middle", whole+fault+whole)
	}
}

// What is cut between two events is fewer events; anywhere else it is none.
func TestAllOfTruncated(t *testing.T) {
	l := []api.Event{good(), {Stream: "s", Type: "t"}, widest()}
	ends := map[int]int{0: 0, len(wires(l[:1])): 1, len(wires(l[:2])): 2, len(wires(l)): 3}
	b := wires(l)
	for n := range len(b) + 1 {
		if k, ok := ends[n]; ok {
			wantAll(t, b[:n], l[:k])
		} else {
			wantNone(t, "truncated", b[:n])
		}
	}
}

// R7
func TestAllLeavesItsArgument(t *testing.T) {
	b := []byte(wire(good()) + wire(good()))
	l, _ := All(b)
	again, _ := All(b)
	if string(b) != wire(good())+wire(good()) {
		t.Errorf("the bytes became %x", b)
	}
	clear(b)
	clear(l[1].Tags[:cap(l[1].Tags)])
	clear(l[1].Fields[:cap(l[1].Fields)])
	for _, e := range again {
		clear(e.Tags)
		clear(e.Fields)
	}
	if say(l[0]) != say(good()) {
		t.Errorf("what was answered became %s", say(l[0]))
	}
}

// P5.3

func TestEventsComeBack(t *testing.T) {
	var b []byte
	for _, e := range goods() {
		one, code := Put(nil, e)
		if code != api.OK {
			t.Fatalf("Put(%s) is %d", say(e), code)
		}
		wantAll(t, string(one), []api.Event{e})
		b, _ = Put(b, e)
	}
	wantAll(t, string(b), goods())
	r := num.NewReader(b)
	for _, e := range goods() {
		wantTaken(t, r, e)
	}
	if r.Left() != 0 || r.Bad() {
		t.Errorf("%d bytes are left, Bad %v", r.Left(), r.Bad())
	}
}

// wantCanonical fails unless b is refused, or is just what Put makes of the events that were found in it.
func wantCanonical(t *testing.T, b []byte) int {
	t.Helper()
	l, code := All(b)
	if code != api.OK {
		if code != api.ErrCorrupt || l != nil {
			t.Errorf("All(%x) is %d events, %d", b, len(l), code)
		}
		return 0
	}
	var again []byte
	for _, e := range l {
		var code api.Errno
		if again, code = Put(again, e); code != api.OK {
			t.Errorf("All(%x) has an event that Put refuses: %s, %d", b, say(e), code)
		}
	}
	if !bytes.Equal(again, b) {
		t.Errorf("All(%x) is taken for %x", b, again)
	}
	return len(l)
}

// All short rows of a few bytes: those that are events are known by their form, and no others are taken.
func TestAllOfShortRows(t *testing.T) {
	const letters = "\x00\x01\x02\x04st"
	known := map[string]bool{}
	for _, stream := range []string{"s", "t", "ss", "st", "ts", "tt"} {
		for _, kind := range []string{"s", "t", "ss", "st", "ts", "tt"} {
			known[wire(api.Event{Stream: stream, Type: kind})] = true
		}
	}
	for size := 1; size <= 8; size++ {
		total := 1
		for range size {
			total *= len(letters)
		}
		b := make([]byte, size)
		for k := range total {
			for i := range b {
				b[i] = letters[k%len(letters)]
				k /= len(letters)
			}
			if _, code := All(b); (code == api.OK) != known[string(b)] {
				t.Fatalf("All(%x) is %d, an event: %v", b, code, known[string(b)])
			}
		}
	}
}

// Each byte of some events is changed to each other one.
func TestAllOfChangedBytes(t *testing.T) {
	taken := 0
	for _, e := range []api.Event{good(), widest(), {Stream: "s", Type: "t"}} {
		b := []byte(wire(e))
		for i, was := range b {
			for c := range 256 {
				b[i] = byte(c)
				taken += wantCanonical(t, b)
			}
			b[i] = was
		}
	}
	if taken < 1000 {
		t.Errorf("only %d changed events are valid", taken)
	}
}

func FuzzAll(f *testing.F) {
	for _, e := range append(goods(), wrongs()...) {
		f.Add([]byte(wire(e)))
	}
	f.Add([]byte(wires(goods())))
	f.Add([]byte("\x02s\x02t\xfe\xff\xff\xff\xff\xff\xff\xff\xff\x01"))
	f.Fuzz(func(t *testing.T, b []byte) {
		wantCanonical(t, b)
		r := num.NewReader(b)
		for r.Left() > 0 {
			left := r.Left()
			e, code := Take(r)
			if code != api.OK {
				if !r.Bad() && r.Left() != left || !isZero(e) {
					t.Fatalf("%x: an error leaves %d of %d bytes, with %s", b, r.Left(), left, say(e))
				}
				return
			}
			if r.Bad() || event.May(e) != api.OK || left-r.Left() != len(wire(e)) {
				t.Fatalf("%x: %s was taken for %d bytes", b, say(e), left-r.Left())
			}
		}
	})
}
