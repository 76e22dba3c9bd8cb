package batch

import (
	"bytes"
	"math"
	"slices"
	"strconv"
	"strings"
	"testing"

	"registrar/api"
	"registrar/event"
)

// The bounds, written out as the chapters have them.
const (
	most    = 16            // events of a batch
	mostLog = 1048576       // events of a log
	mostNum = 1099511627776 // of a field
)

// number and text are the encodings as the chapter of num words them, by division instead of shifts.
func number(x int) string {
	u := 2 * uint64(x)
	if x < 0 {
		u = -u - 1
	}
	var out []byte
	for ; u >= 128; u /= 128 {
		out = append(out, byte(u%128)+128)
	}
	return string(append(out, byte(u)))
}

func text(s string) string {
	return number(len(s)) + s
}

func wireEvent(e api.Event) string {
	s := text(e.Stream) + text(e.Type) + number(len(e.Tags))
	for _, tag := range e.Tags {
		s += text(tag)
	}
	s += number(len(e.Fields))
	for _, f := range e.Fields {
		s += text(f.Name) + number(f.N)
	}
	return s
}

func wireEvents(l []api.Event) string {
	var s strings.Builder
	for _, e := range l {
		s.WriteString(wireEvent(e))
	}
	return s.String()
}

// wire is the form of a batch as P10.1 words it; it checks nothing.
func wire(x api.Batch) string {
	return number(x.After) + number(len(x.Events)) + wireEvents(x.Events)
}

func small() api.Event { return api.Event{Stream: "s", Type: "t"} }

func full() api.Event {
	return api.Event{
		Stream: "kunde-7", Type: "bestellt",
		Tags:   []string{"a:x", "a:y", "aa:x", "b:a", "\u00e9:a", "\u03bb:\u00df"},
		Fields: []api.Field{{Name: "_a", N: -mostNum}, {Name: "a", N: mostNum}, {Name: "b", N: 0}, {Name: "\u00f8", N: 1}},
	}
}

// widest is the event with the longest encoding: each name has 24 bytes, each number is far from 0.
func widest() api.Event {
	name := func(c string) string { return c + strings.Repeat("z", 23) }
	e := api.Event{Stream: name("s"), Type: name("t")}
	for _, c := range []string{"a", "b", "c", "d", "e", "f"} {
		e.Tags = append(e.Tags, name(c)+":"+name(c))
	}
	for _, c := range []string{"a", "b", "c", "d"} {
		e.Fields = append(e.Fields, api.Field{Name: name(c), N: mostNum})
	}
	return e
}

// list has n events, no two neighbours the same.
func list(n int) []api.Event {
	var l []api.Event
	for i := range n {
		switch i % 3 {
		case 0:
			l = append(l, full())
		case 1:
			l = append(l, small())
		default:
			l = append(l, api.Event{Stream: "nr-" + strconv.Itoa(i), Type: "t", Tags: []string{"a:x"}})
		}
	}
	return l
}

// goods has each amount of events, ahead and at the ends of the log.
func goods() []api.Batch {
	l := []api.Batch{
		{After: 5, Events: []api.Event{small()}},
		{After: 0, Events: []api.Event{{Stream: "s", Type: "s", Tags: []string{}, Fields: []api.Field{}}}},
		{After: 63, Events: slices.Repeat([]api.Event{widest()}, most)},
	}
	for n := 1; n <= most; n++ {
		for _, after := range []int{0, 1, 63, 64, 8191, 8192, mostLog/2 - 1, mostLog - n - 1, mostLog - n} {
			l = append(l, api.Batch{After: after, Events: list(n)})
		}
	}
	return l
}

// broken is an event with an error, and which one it is.
type broken struct {
	event api.Event
	code  api.Errno
}

func brokens() []broken {
	changed := func(change func(e *api.Event)) api.Event {
		e := full()
		change(&e)
		return e
	}
	return []broken{
		{api.Event{}, api.ErrName},
		{changed(func(e *api.Event) { e.Stream = "7" }), api.ErrName},
		{changed(func(e *api.Event) { e.Type = strings.Repeat("a", 25) }), api.ErrName},
		{changed(func(e *api.Event) { e.Tags = make([]string, 7) }), api.ErrBig},
		{changed(func(e *api.Event) { e.Fields = make([]api.Field, 5) }), api.ErrBig},
		{changed(func(e *api.Event) { e.Tags[0] = "a" }), api.ErrName},
		{changed(func(e *api.Event) { e.Fields[0].Name = "" }), api.ErrName},
		{changed(func(e *api.Event) { e.Tags[1] = e.Tags[0] }), api.ErrArg},
		{changed(func(e *api.Event) { e.Fields[0], e.Fields[1] = e.Fields[1], e.Fields[0] }), api.ErrArg},
		{changed(func(e *api.Event) { e.Fields[1].N++ }), api.ErrArg},
		{changed(func(e *api.Event) { e.Fields[0].N = math.MinInt }), api.ErrArg},
	}
}

// wrong is a batch with an error, and which one it is.
type wrong struct {
	batch api.Batch
	code  api.Errno
}

func wrongs() []wrong {
	l := []wrong{
		{api.Batch{}, api.ErrEmpty},
		{api.Batch{After: 5, Events: []api.Event{}}, api.ErrEmpty},
		{api.Batch{After: -1}, api.ErrEmpty},
		{api.Batch{After: math.MaxInt}, api.ErrEmpty},
		{api.Batch{Events: list(most + 1)}, api.ErrBig},
		{api.Batch{Events: list(300)}, api.ErrBig},
		{api.Batch{After: -1, Events: make([]api.Event, most+1)}, api.ErrBig},
	}
	for _, b := range brokens() {
		for _, after := range []int{0, -1, math.MinInt, math.MaxInt, mostLog} {
			l = append(l, wrong{api.Batch{After: after, Events: []api.Event{b.event}}, b.code})
			l = append(l, wrong{api.Batch{After: after, Events: append(list(most-1), b.event)}, b.code})
		}
		for _, c := range brokens() {
			l = append(l, wrong{api.Batch{Events: []api.Event{small(), b.event, full(), c.event}}, b.code})
		}
	}
	for n := 1; n <= most; n++ {
		for _, after := range []int{-1, -2, -n, -64, math.MinInt, mostLog - n + 1, mostLog, mostLog + 1, math.MaxInt - n, math.MaxInt - n + 1, math.MaxInt} {
			l = append(l, wrong{api.Batch{After: after, Events: list(n)}, api.ErrArg})
		}
	}
	return l
}

// sayEvent writes an event out, each text in quotes, so that two events have the same text only if they are equal.
func sayEvent(e api.Event) string {
	s := strconv.Quote(e.Stream) + " " + strconv.Quote(e.Type) + " ["
	for _, tag := range e.Tags {
		s += " " + strconv.Quote(tag)
	}
	s += " ] ["
	for _, f := range e.Fields {
		s += " " + strconv.Quote(f.Name) + "=" + strconv.Itoa(f.N)
	}
	return s + " ]"
}

func say(x api.Batch) string {
	s := "after " + strconv.Itoa(x.After) + ":"
	for _, e := range x.Events {
		s += " (" + sayEvent(e) + ")"
	}
	return s
}

func wantPut(t *testing.T, x api.Batch, want string) {
	t.Helper()
	if b, code := Put(x); string(b) != want || code != api.OK {
		t.Errorf("Put of %.200s is %.100x, %d, want %.100x", say(x), b, code, want)
	}
}

func wantTaken(t *testing.T, b string, want api.Batch) {
	t.Helper()
	if x, code := Take([]byte(b)); code != api.OK || say(x) != say(want) {
		t.Errorf("Take of %.100x is %.200s, %d, want %.200s", b, say(x), code, say(want))
	}
}

func wantCorrupt(t *testing.T, what, b string) {
	t.Helper()
	if x, code := Take([]byte(b)); code != api.ErrCorrupt || x.After != 0 || x.Events != nil {
		t.Errorf("%s: Take of %.100x is %.200s, %d, want ErrCorrupt", what, b, say(x), code)
	}
}

// P10.1, May

func TestMayOfGoods(t *testing.T) {
	for _, x := range goods() {
		if code := May(x); code != api.OK {
			t.Errorf("May of %.200s is %d", say(x), code)
		}
	}
}

func TestMayErrors(t *testing.T) {
	for _, w := range wrongs() {
		if code := May(w.batch); code != w.code {
			t.Errorf("May of %.200s is %d, want %d", say(w.batch), code, w.code)
		}
	}
}

// The numbers beside the names: what an error is called says nothing of which one it is.
func TestMayErrorNumbers(t *testing.T) {
	for want, x := range map[api.Errno]api.Batch{
		22: {},
		3:  {Events: list(17)},
		5:  {Events: []api.Event{{}}},
		1:  {After: -1, Events: list(1)},
	} {
		if code := May(x); code != want {
			t.Errorf("May of %.200s is %d, want %d", say(x), code, want)
		}
	}
}

// The errors of the events are those that event.May has.
func TestMayTellsWhatEventMayTells(t *testing.T) {
	for _, b := range brokens() {
		if code := event.May(b.event); code != b.code {
			t.Fatalf("event.May of %s is %d, not %d", sayEvent(b.event), code, b.code)
		}
		for at := range most {
			l := list(most)
			l[at] = b.event
			if code := May(api.Batch{Events: l}); code != b.code {
				t.Errorf("May with %s at %d is %d, want %d", sayEvent(b.event), at, code, b.code)
			}
		}
	}
}

// After and the events together reach the end of the log, and not one event more.
func TestMayAtTheEndOfTheLog(t *testing.T) {
	for n := 1; n <= most; n++ {
		for after := mostLog - 2*most; after <= mostLog+most; after++ {
			want := api.OK
			if after+n > mostLog {
				want = api.ErrArg
			}
			if code := May(api.Batch{After: after, Events: list(n)}); code != want {
				t.Errorf("May of %d events after %d is %d, want %d", n, after, code, want)
			}
		}
	}
}

// P10.1, Put

func TestPutExamples(t *testing.T) {
	wantPut(t, api.Batch{After: 5, Events: []api.Event{small()}}, "\x0a\x02\x02\x73\x02\x74\x00\x00")
	wantPut(t, api.Batch{Events: []api.Event{small()}}, "\x00\x02\x02s\x02t\x00\x00")
	two := []api.Event{small(), {Stream: "ab", Type: "c", Tags: []string{"a:x"}, Fields: []api.Field{{Name: "n", N: -1}}}}
	wantPut(t, api.Batch{After: 64, Events: two}, "\x80\x01\x04\x02s\x02t\x00\x00\x04ab\x02c\x02\x06a:x\x02\x02n\x01")
	wantPut(t, api.Batch{After: mostLog - 1, Events: two[:1]}, "\xfe\xff\x7f\x02\x02s\x02t\x00\x00")
	many := slices.Repeat(two[:1], most)
	wantPut(t, api.Batch{After: mostLog - most, Events: many}, "\xe0\xff\x7f\x20"+strings.Repeat("\x02s\x02t\x00\x00", most))
}

func TestPutFollowsTheForm(t *testing.T) {
	for _, x := range goods() {
		wantPut(t, x, wire(x))
	}
}

// The errors are those of May, and no bytes come with them.
func TestPutErrors(t *testing.T) {
	for _, w := range wrongs() {
		if b, code := Put(w.batch); code != w.code || b != nil {
			t.Errorf("Put of %.200s is %.100x, %d, want %d", say(w.batch), b, code, w.code)
		}
	}
}

// The longest batch has room in a frame.
func TestLongestBatchFits(t *testing.T) {
	x := api.Batch{After: mostLog - most, Events: slices.Repeat([]api.Event{widest()}, most)}
	if b, code := Put(x); code != api.OK || len(b) > 16384 {
		t.Errorf("Put of the longest batch is %d bytes, %d", len(b), code)
	}
}

// P10.1, Take

func TestTakeExamples(t *testing.T) {
	wantTaken(t, "\x0a\x02\x02\x73\x02\x74\x00\x00", api.Batch{After: 5, Events: []api.Event{small()}})
	two := []api.Event{small(), {Stream: "ab", Type: "c", Tags: []string{"a:x"}, Fields: []api.Field{{Name: "n", N: -1}}}}
	wantTaken(t, "\x80\x01\x04\x02s\x02t\x00\x00\x04ab\x02c\x02\x06a:x\x02\x02n\x01", api.Batch{After: 64, Events: two})
}

func TestTakeOfTheForm(t *testing.T) {
	for _, x := range goods() {
		wantTaken(t, wire(x), x)
	}
}

func TestTakeOfNothing(t *testing.T) {
	if x, code := Take(nil); code != api.ErrCorrupt || x.Events != nil || x.After != 0 {
		t.Errorf("Take of nil is %s, %d", say(x), code)
	}
	for _, b := range []string{"", "\x00", "\x00\x00", "\x0a", "\x0a\x02", "\x0a\x00", "\x80", "\xff\xff"} {
		wantCorrupt(t, "nearly nothing", b)
	}
}

func TestTakeOfTruncated(t *testing.T) {
	for _, x := range []api.Batch{goods()[0], {After: 64, Events: list(2)}, {After: mostLog - most, Events: list(most)}} {
		b := wire(x)
		for n := range len(b) {
			wantCorrupt(t, "truncated", b[:n])
			if n > 0 {
				wantCorrupt(t, "without its beginning", b[n:]+"\x00")
			}
		}
	}
}

func TestTakeWithBytesLeft(t *testing.T) {
	for _, x := range goods() {
		for _, rest := range []string{"\x00", "\x80", "\xff\xff", wireEvent(small()), wire(x)} {
			wantCorrupt(t, "bytes left", wire(x)+rest)
		}
	}
}

// What has the form of a batch but an error of May is none: Put makes no such bytes.
func TestTakeOfWrongs(t *testing.T) {
	for _, w := range wrongs() {
		wantCorrupt(t, "error "+strconv.Itoa(int(w.code)), wire(w.batch))
	}
}

// The number of events is as many as follow, neither fewer nor more.
func TestTakeCounts(t *testing.T) {
	for n := range most + 2 {
		for k := range most + 20 {
			b := number(7) + number(k) + wireEvents(list(n))
			if k == n && n >= 1 && n <= most {
				wantTaken(t, b, api.Batch{After: 7, Events: list(n)})
			} else {
				wantCorrupt(t, "other number of events", b)
			}
		}
		for _, k := range []int{-1, -n, -n - 1, -most, -64, math.MinInt, math.MinInt + 1, 256, 65536, 1 << 32, 1<<32 + n, 1 << 62, math.MaxInt} {
			if k != n {
				wantCorrupt(t, "far number of events", number(7)+number(k)+wireEvents(list(n)))
			}
		}
	}
}

// Many events that are all there are too many, and not one beyond what a batch may have is decoded.
func TestTakeOfManyEvents(t *testing.T) {
	const many = 1 << 12
	b := []byte(number(0) + number(many) + strings.Repeat(wireEvent(full()), many))
	wantCorrupt(t, "many events", string(b))
	if n := testing.AllocsPerRun(3, func() { Take(b) }); n > many {
		t.Errorf("Take of %d events allocates %v times", many, n)
	}
}

// A number that is not written as briefly as may be is none.
func TestTakeOtherForms(t *testing.T) {
	for _, b := range []string{
		"\x8a\x00\x02\x02s\x02t\x00\x00", "\x0a\x82\x00\x02s\x02t\x00\x00", "\x0a\x02\x82\x00s\x02t\x00\x00",
		"\x0a\x02\x02s\x02t\x80\x00\x00", "\x0a\x02\x02s\x02t\x00\x80\x00", "\x80\x80\x80\x80\x80\x80\x80\x80\x80\x02\x02\x02s\x02t\x00\x00",
		"\x0b\x02\x02s\x02t\x00\x00", "\x0a\x03\x02s\x02t\x00\x00", "\x0a\x01\x02s\x02t\x00\x00",
	} {
		wantCorrupt(t, "other form", b)
	}
}

// wantCanonical fails unless b is refused, or is just what Put makes of what was taken.
func wantCanonical(t *testing.T, b []byte) bool {
	t.Helper()
	x, code := Take(b)
	if code != api.OK {
		if code != api.ErrCorrupt || x.After != 0 || x.Events != nil {
			t.Errorf("Take of %.100x is %.200s, %d", b, say(x), code)
		}
		return false
	}
	if May(x) != api.OK {
		t.Errorf("Take of %.100x is a wrong batch: %.200s", b, say(x))
	}
	if again, code := Put(x); code != api.OK || !bytes.Equal(again, b) {
		t.Errorf("Take of %.100x is %.200s, which Put makes %.100x of, %d", b, say(x), again, code)
	}
	return true
}

// All short rows of a few bytes: as many are batches as the form has.
func TestTakeOfShortRows(t *testing.T) {
	const letters = "\x00\x01\x02\x04st"
	row := make([]byte, 8)
	found := 0
	var fill func(at int)
	fill = func(at int) {
		if at == len(row) {
			if wantCanonical(t, row) {
				found++
			}
			return
		}
		for _, c := range []byte(letters) {
			row[at] = c
			fill(at + 1)
		}
	}
	fill(0)
	want := 0 // one event, each of its two names s or t; After is not negative if its byte is even
	for _, after := range []byte(letters) {
		if after%2 == 0 {
			want += 4
		}
	}
	if found != want {
		t.Errorf("%d rows are batches, want %d", found, want)
	}
}

// Each byte of a batch replaced by each other byte is another batch, or none.
func TestTakeOfChangedBytes(t *testing.T) {
	for _, x := range []api.Batch{goods()[0], {After: 8192, Events: list(3)}} {
		b := []byte(wire(x))
		for at, was := range b {
			for c := range 256 {
				b[at] = byte(c)
				wantCanonical(t, b)
			}
			b[at] = was
		}
	}
}

// P10.2

func TestBatchesComeBack(t *testing.T) {
	for _, x := range goods() {
		b, code := Put(x)
		if code != api.OK {
			t.Fatalf("Put of %.200s is %d", say(x), code)
		}
		wantTaken(t, string(b), x)
	}
}

func FuzzTake(f *testing.F) {
	f.Add([]byte(""))
	for _, x := range []api.Batch{goods()[0], {After: 64, Events: list(2)}, {After: mostLog - most, Events: list(most)}} {
		f.Add([]byte(wire(x)))
	}
	for _, w := range []api.Batch{{}, {After: -1, Events: list(2)}, {Events: list(most + 1)}, {Events: []api.Event{{}}}} {
		f.Add([]byte(wire(w)))
	}
	f.Fuzz(func(t *testing.T, b []byte) { wantCanonical(t, b) })
}

// R6 and R7

// spared returns the batch with spare capacity in each list, and all lists to their capacity.
func spared() (api.Batch, func() string) {
	events := list(most)
	for i := range events {
		events[i].Tags = append(make([]string, 0, 9), events[i].Tags...)
		events[i].Fields = append(make([]api.Field, 0, 9), events[i].Fields...)
	}
	x := api.Batch{After: 5, Events: events[:4]}
	return x, func() string {
		var s strings.Builder
		for _, e := range events {
			e.Tags, e.Fields = e.Tags[:cap(e.Tags)], e.Fields[:cap(e.Fields)]
			s.WriteString(sayEvent(e))
		}
		return s.String()
	}
}

func TestCallsLeaveTheBatch(t *testing.T) {
	x, all := spared()
	was := all()
	May(x)
	Put(x)
	if all() != was || x.After != 5 || len(x.Events) != 4 {
		t.Errorf("May and Put changed the batch to %.200s", say(x))
	}
}

func TestPutAnswersNewMemory(t *testing.T) {
	x, _ := spared()
	want := wire(x)
	first, _ := Put(x)
	second, _ := Put(x)
	clear(second[:cap(second)])
	for i := range x.Events {
		clear(x.Events[i].Tags)
		clear(x.Events[i].Fields)
	}
	clear(x.Events)
	if string(first) != want {
		t.Errorf("what was answered became %.100x", first)
	}
}

func TestTakeLeavesItsArgument(t *testing.T) {
	x := api.Batch{After: 5, Events: list(most)}
	want := wire(x)
	whole := append([]byte(want), "spare"...)
	b := whole[:len(want)]
	first, _ := Take(b)
	second, _ := Take(b)
	if string(whole) != want+"spare" {
		t.Errorf("Take changed its argument to %.100x", whole)
	}
	clear(whole)
	for _, e := range second.Events {
		clear(e.Tags[:cap(e.Tags)])
		clear(e.Fields[:cap(e.Fields)])
	}
	clear(second.Events[:cap(second.Events)])
	if say(first) != say(x) {
		t.Errorf("what was taken became %.200s", say(first))
	}
}

// The lists of one answer are apart, too: what is appended to one of them goes into no other.
func TestTakenListsAreApart(t *testing.T) {
	x := api.Batch{Events: slices.Repeat([]api.Event{full()}, most)}
	got, _ := Take([]byte(wire(x)))
	for i := range got.Events {
		e := &got.Events[i]
		_ = append(e.Tags, "z:z")
		_ = append(e.Fields, api.Field{Name: "z"})
		clear(e.Tags)
		clear(e.Fields)
		for _, other := range got.Events[i+1:] {
			if sayEvent(other) != sayEvent(full()) {
				t.Fatalf("an event became %s when event %d was changed", sayEvent(other), i)
			}
		}
	}
}

func TestCallsAreApart(t *testing.T) {
	wantPut(t, goods()[0], wire(goods()[0]))
	for _, w := range wrongs() {
		Put(w.batch)
		Take([]byte(wire(w.batch)))
	}
	wantPut(t, goods()[0], wire(goods()[0]))
	wantTaken(t, wire(goods()[0]), goods()[0])
}
