package wal

import (
	"encoding/binary"
	"encoding/hex"
	"hash/crc32"
	"math"
	"slices"
	"strconv"
	"strings"
	"testing"

	"registrar/api"
	"registrar/batch"
	"registrar/disk"
)

// The bounds, written out as the chapters have them.
const (
	most      = 16      // events of a batch
	mostLog   = 1048576 // events of a log
	mostSeg   = 2048    // bytes of a segment, ahead of its last frame
	mostFiles = 200     // segments
	mostFile  = 65536   // bytes of a file
	mostFrame = 16384   // bytes in a frame
	roomy     = 1 << 26 // a quota that no test here reaches
)

// number, text, wire and framed are the encodings as the chapters word them, by the library's sums.
func number(x int) string {
	u := 2 * uint64(x)
	if x < 0 {
		u = -u - 1
	}
	var out []byte
	for ; u >= 128; u /= 128 {
		out = append(out, byte(u%128)+128)
	}
	return string(append(out, byte(u)))
}

func text(s string) string { return number(len(s)) + s }

func wire(x api.Batch) string {
	s := number(x.After) + number(len(x.Events))
	for _, e := range x.Events {
		s += text(e.Stream) + text(e.Type) + number(len(e.Tags))
		for _, tag := range e.Tags {
			s += text(tag)
		}
		s += number(len(e.Fields))
		for _, f := range e.Fields {
			s += text(f.Name) + number(f.N)
		}
	}
	return s
}

func framed(body string) string {
	length := binary.LittleEndian.AppendUint32(nil, uint32(len(body)))
	sum := crc32.ChecksumIEEE([]byte(string(length) + body))
	return string(binary.LittleEndian.AppendUint32(length, sum)) + body
}

// wires is the frames of batches.
func wires(l ...api.Batch) string {
	s := ""
	for _, x := range l {
		s += framed(wire(x))
	}
	return s
}

func name(c string, n int) string { return c + strings.Repeat("z", n-1) }

// one is a batch of one event without tags and fields; its frame has s + t + 14 bytes for an After below 64.
func one(after, s, t int) api.Batch {
	return api.Batch{After: after, Events: []api.Event{{Stream: name("s", s), Type: name("t", t)}}}
}

func full() api.Event {
	return api.Event{
		Stream: "kunde-7", Type: "bestellt",
		Tags:   []string{"a:x", "b:a", "\u03bb:\u00df"},
		Fields: []api.Field{{Name: "a", N: -5}, {Name: "n", N: 1 << 40}},
	}
}

// widest is the event with the longest encoding.
func widest() api.Event {
	e := api.Event{Stream: name("s", 24), Type: name("t", 24)}
	for _, c := range []string{"a", "b", "c", "d", "e", "f"} {
		e.Tags = append(e.Tags, name(c, 24)+":"+name(c, 24))
	}
	for _, c := range []string{"a", "b", "c", "d"} {
		e.Fields = append(e.Fields, api.Field{Name: name(c, 24), N: 1 << 40})
	}
	return e
}

// chain is batches that follow each other, each with that number of events.
func chain(after int, sizes ...int) []api.Batch {
	var l []api.Batch
	for _, n := range sizes {
		x := api.Batch{After: after}
		for i := range n {
			e := full()
			e.Stream = "nr-" + strconv.Itoa(after+i)
			x.Events = append(x.Events, e)
		}
		l = append(l, x)
		after += n
	}
	return l
}

// wide is a batch whose frame alone is longer than a segment must be to be full.
func wide(after int) api.Batch {
	return api.Batch{After: after, Events: slices.Repeat([]api.Event{widest()}, 6)}
}

func say(l []api.Batch) string { return hex.EncodeToString([]byte(wires(l...))) }

func events(l []api.Batch) int {
	n := 0
	for _, x := range l {
		n += len(x.Events)
	}
	return n
}

// sayDisk writes out all bytes of a disk, so that two disks have the same text only if their files are equal.
func sayDisk(d *disk.Disk) string {
	s := ""
	for _, name := range d.List() {
		b, code := d.Read(name)
		s += name + "=" + strconv.Quote(string(b)) + strconv.Itoa(int(code)) + "\n"
	}
	return s
}

// sayAll is what can be read of a disk now and after a crash.
func sayAll(d *disk.Disk) string {
	c := d.Clone()
	c.Crash(0)
	return sayDisk(d) + "safe:\n" + sayDisk(c)
}

func must(t *testing.T, what string, code api.Errno) {
	t.Helper()
	if code != api.OK {
		t.Fatalf("%s is %d", what, code)
	}
}

func mustAppend(t *testing.T, l *Log, x api.Batch) {
	t.Helper()
	must(t, "Append", l.Append(x))
}

// diskOf has the segments with those bytes, none of them synced.
func diskOf(t *testing.T, segments ...string) *disk.Disk {
	t.Helper()
	d := disk.New(roomy)
	for i, s := range segments {
		must(t, "the disk's Append", d.Append("log_"+strconv.Itoa(i+1), []byte(s)))
	}
	return d
}

func syncAll(t *testing.T, d *disk.Disk) *disk.Disk {
	t.Helper()
	for _, name := range d.List() {
		must(t, "the disk's Sync", d.Sync(name))
	}
	return d
}

func mustOpen(t *testing.T, d *disk.Disk) *Log {
	t.Helper()
	l, _, code := Open(d)
	must(t, "Open", code)
	return l
}

// wantOpen opens the log and fails unless it has those batches in that many segments.
func wantOpen(t *testing.T, what string, d *disk.Disk, want []api.Batch, segments int) *Log {
	t.Helper()
	l, got, code := Open(d)
	if code != api.OK || l == nil {
		t.Fatalf("%s: Open is %d", what, code)
	}
	if say(got) != say(want) {
		t.Errorf("%s: Open has %d batches, want %d: %.200s, want %.200s", what, len(got), len(want), say(got), say(want))
	}
	wantLog(t, what, l, d, events(want), segments)
	return l
}

func wantLog(t *testing.T, what string, l *Log, d *disk.Disk, last, segments int) {
	t.Helper()
	if l.Last() != last || l.Segments() != segments || l.Disk() != d {
		t.Errorf("%s: Last %d, Segments %d, the disk itself %v, want %d and %d", what, l.Last(), l.Segments(), l.Disk() == d, last, segments)
	}
}

// wantFiles fails unless the disk has the segments with those bytes, all of them safe, and no other file.
func wantFiles(t *testing.T, what string, d *disk.Disk, segments ...string) {
	t.Helper()
	want := sayAll(syncAll(t, diskOf(t, segments...)))
	if got := sayAll(d); got != want {
		t.Errorf("%s: the disk is %.400s, want %.400s", what, got, want)
	}
}

// wantRefused fails unless Append has that error and changes nothing.
func wantRefused(t *testing.T, what string, l *Log, x api.Batch, want api.Errno) {
	t.Helper()
	before, last, segments := sayAll(l.Disk()), l.Last(), l.Segments()
	if code := l.Append(x); code != want {
		t.Errorf("%s: Append is %d, want %d", what, code, want)
	}
	wantLog(t, what, l, l.Disk(), last, segments)
	if after := sayAll(l.Disk()); after != before {
		t.Errorf("%s: Append changes the disk from %.200s to %.200s", what, before, after)
	}
}

// Segment

func TestSegment(t *testing.T) {
	for n := -300; n <= 600; n++ {
		want := ""
		if n >= 1 && n <= mostFiles {
			want = "log_" + strconv.Itoa(n)
		}
		if got := Segment(n); got != want {
			t.Errorf("Segment(%d) is %q, want %q", n, got, want)
		}
	}
	for _, n := range []int{math.MinInt, math.MaxInt, 1<<32 + 1, -1 << 32, 1<<8 + 1, 1<<16 + 1} {
		if got := Segment(n); got != "" {
			t.Errorf("Segment(%d) is %q, want no name", n, got)
		}
	}
	if Segment(1) != "log_1" || Segment(99) != "log_99" || Segment(200) != "log_200" {
		t.Errorf("the names are %q, %q, %q", Segment(1), Segment(99), Segment(200))
	}
}

// P11.1

func TestOpenOfNothing(t *testing.T) {
	d := disk.New(roomy)
	d.Fuse(0)
	wantOpen(t, "an empty disk that stands still", d, nil, 0)
	wantFiles(t, "an empty disk", d)
	d = disk.New(0)
	wantOpen(t, "a disk without room", d, nil, 0)
}

func TestOpenReadsWhatIsThere(t *testing.T) {
	l := chain(0, 1, 16, 3, 2, 1, 1)
	for what, segments := range map[string][]string{
		"one segment":      {wires(l...)},
		"two segments":     {wires(l[:2]...), wires(l[2:]...)},
		"one each":         {wires(l[0]), wires(l[1]), wires(l[2]), wires(l[3]), wires(l[4]), wires(l[5])},
		"empty ones":       {"", wires(l[:3]...), "", "", wires(l[3:]...), ""},
		"an empty one":     {"", wires(l...)},
		"an empty one too": {wires(l...), ""},
	} {
		d := diskOf(t, segments...)
		wantOpen(t, what, d, l, len(segments))
		wantFiles(t, what, d, segments...)
		wantOpen(t, what+" again", d, l, len(segments))
	}
	d := diskOf(t, "", "")
	wantOpen(t, "empty segments alone", d, nil, 2)
	wantFiles(t, "empty segments alone", d, "", "")
}

// A frame written out, so that the form on the disk is not only that of the helpers here.
func TestOpenOfWrittenOutBytes(t *testing.T) {
	b, e := hex.DecodeString("08000000" + "ab920de0" + "0002027302740000")
	if e != nil {
		t.Fatal(e)
	}
	if wires(one(0, 1, 1)) != string(b) {
		t.Fatalf("the frame is %x", wires(one(0, 1, 1)))
	}
	wantOpen(t, "a frame", diskOf(t, string(b)), []api.Batch{one(0, 1, 1)}, 1)
}

// Other segments than those up to the first one that is not there are no segments.
func TestOpenLeavesOtherFiles(t *testing.T) {
	l := chain(0, 2, 1, 1)
	for what, first := range map[string]string{"a whole log": wires(l[0]), "a cut": wires(l[0]) + "x"} {
		d := diskOf(t, first)
		for _, name := range []string{"log_3", "log_0", "log_201", "log_", "log", "log_02", "check", "check_new", "a_log_2"} {
			must(t, "the disk's Append", d.Append(name, []byte(wires(l[1]))))
		}
		c := d.Clone()
		must(t, "the disk's Truncate", c.Truncate("log_1", len(wires(l[0]))))
		must(t, "the disk's Sync", c.Sync("log_1"))
		wantOpen(t, what, d, l[:1], 1)
		if sayAll(d) != sayAll(c) {
			t.Errorf("%s: the disk is %.400s, want %.400s", what, sayAll(d), sayAll(c))
		}
	}
	d := disk.New(roomy)
	must(t, "the disk's Append", d.Append("log_2", []byte(wires(l[0]))))
	before := sayAll(d)
	wantOpen(t, "no first segment", d, nil, 0)
	if sayAll(d) != before {
		t.Errorf("Open without a first segment changes the disk to %.400s", sayAll(d))
	}
}

// All segments that there may be are read, and cut if need be.
func TestOpenOfAllSegments(t *testing.T) {
	l := chain(0, slices.Repeat([]int{1}, mostFiles)...)
	var segments []string
	for _, x := range l {
		segments = append(segments, wires(x))
	}
	d := diskOf(t, segments...)
	wantOpen(t, "all segments", d, l, mostFiles)
	must(t, "the disk's Turn", d.Turn("log_200", 9))
	wantOpen(t, "the last one broken", d, l[:199], mostFiles)
	wantFiles(t, "the last one broken", d, append(slices.Clone(segments[:199]), "")...)
	must(t, "the disk's Turn", d.Turn("log_1", 9))
	wantOpen(t, "the first one broken", d, nil, 1)
	wantFiles(t, "the first one broken", d, "")
}

// broken is bytes that end a log of three events.
func broken() map[string]string {
	next := chain(3, 2)[0]
	good := wires(next)
	m := map[string]string{
		"a byte":                    "\x00",
		"no head":                   "\x01\x00\x00\x00\x00\x00\x00",
		"zeros":                     strings.Repeat("\x00", 100),
		"255s":                      strings.Repeat("\xff", 100),
		"text":                      "this is no frame, but a text",
		"a frame of nothing":        framed(""),
		"a frame of text":           framed("abc"),
		"the batch without frame":   wire(next),
		"a frame in a frame":        framed(good),
		"a frame with more":         framed(wire(next) + "\x00"),
		"a frame with less":         framed(wire(next)[:len(wire(next))-1]),
		"two batches in a frame":    framed(wire(next) + wire(chain(5, 1)[0])),
		"no events":                 framed(number(3) + number(0)),
		"a number in a longer form": framed("\x86\x00" + wire(next)[1:]),
		"too many events":           framed(wire(api.Batch{After: 3, Events: slices.Repeat(next.Events[:1], most+1)})),
		"a wrong event":             framed(wire(api.Batch{After: 3, Events: []api.Event{{Stream: "7", Type: "t"}}})),
		"a frame too big":           framed(wire(next) + strings.Repeat("\x00", mostFrame)),
		"the last byte missing":     good[:len(good)-1],
		"the first byte missing":    good[1:],
		"a frame's half":            good[:len(good)/2],
	}
	for _, after := range []int{-3, -1, 0, 1, 2, 4, 5, 6, 64, mostLog - 2, mostLog, math.MaxInt, math.MinInt} {
		x := next
		x.After = after
		m["after "+strconv.Itoa(after)] = wires(x)
	}
	return m
}

// What is not a frame of a batch that follows ends the log, wherever it is, and all behind it goes.
func TestOpenCutsOff(t *testing.T) {
	l := chain(0, 1, 2)
	a, b := wires(l[0]), wires(l[1])
	for what, bad := range broken() {
		next := wires(chain(3, 2)...)
		for _, c := range []struct {
			list     []api.Batch
			segments []string
			want     []string
		}{
			{l, []string{a + b + bad}, []string{a + b}},
			{l, []string{a + b + bad + next}, []string{a + b}},
			{l, []string{a + b, bad}, []string{a + b, ""}},
			{l, []string{a, b + bad + next, next}, []string{a, b}},
			{l, []string{a, b, "", bad, "", next, next + bad}, []string{a, b, "", ""}},
			{l, []string{a + b + bad, next, "", next, bad}, []string{a + b}},
			{l, []string{a + b, next[:9], next}, []string{a + b, ""}},
		} {
			for _, synced := range []bool{false, true} {
				d := diskOf(t, c.segments...)
				if synced {
					syncAll(t, d)
				}
				log := wantOpen(t, what, d, c.list, len(c.want))
				wantFiles(t, what, d, c.want...)
				log = wantOpen(t, what+" again", log.Disk(), c.list, len(c.want))
				mustAppend(t, log, chain(3, 2)[0])
				wantFiles(t, what+" and more", d, append(slices.Clone(c.want[:len(c.want)-1]), c.want[len(c.want)-1]+next)...)
			}
		}
	}
}

// At the beginning of the log there is nothing that it could follow.
func TestOpenCutsOffTheFirst(t *testing.T) {
	for what, bad := range broken() {
		if what == "after 0" {
			continue // it follows nothing
		}
		d := diskOf(t, bad, wires(chain(0, 1)...))
		wantOpen(t, what, d, nil, 1)
		wantFiles(t, what, d, "")
		d = diskOf(t, "", bad, wires(chain(0, 1)...))
		wantOpen(t, what, d, nil, 2)
		wantFiles(t, what, d, "", "")
	}
}

// A log is truncated at each place, and has each bit of it inverted.
func TestOpenOfBrokenLogs(t *testing.T) {
	l := []api.Batch{one(0, 1, 1), one(1, 3, 2), {After: 2, Events: []api.Event{full(), full()}}, one(4, 1, 1), one(5, 2, 2)}
	first, second := l[:3], l[3:]
	whole, border := wires(l...), len(wires(first...))
	n, end := 0, 0 // how many batches end at that place or ahead of it, and where the last of them does
	for at := range whole {
		for end+len(wires(l[n])) <= at {
			end += len(wires(l[n]))
			n++
		}
		what := "place " + strconv.Itoa(at)
		wantOpen(t, what, diskOf(t, whole[:at]), l[:n], 1)
		switch {
		case at >= border:
			wantOpen(t, what+" of the second of two", diskOf(t, whole[:border], whole[border:at]), l[:n], 2)
		case at > end:
			wantOpen(t, what+" of the first of two", diskOf(t, whole[:at], wires(second...)), l[:n], 1)
		default: // the second one does not follow, and becomes empty
			wantOpen(t, what+" of the first of two", diskOf(t, whole[:at], wires(second...)), l[:n], 2)
		}
		for bit := range 8 {
			b := []byte(whole)
			b[at] ^= 1 << bit
			wantOpen(t, what+", turned", diskOf(t, string(b)), l[:n], 1)
			wantOpen(t, what+", turned, of two", diskOf(t, string(b[:border]), string(b[border:])), l[:n], 1+min(at/border, 1))
		}
	}
}

// steps is the disk's calls of Open as P11.1 tells them, on another disk. list is the batches that remain.
func steps(segments []string) (calls []func(d *disk.Disk) api.Errno, list []api.Batch, remain int) {
	last := 0
	for i, s := range segments {
		name := "log_" + strconv.Itoa(i+1)
		at := 0
		for len(s)-at >= 8 {
			n := int(binary.LittleEndian.Uint32([]byte(s[at : at+4])))
			if n > mostFrame || n > len(s)-at-8 || framed(s[at+8:at+8+n]) != s[at:at+8+n] {
				break
			}
			x, code := batch.Take([]byte(s[at+8 : at+8+n]))
			if code != api.OK || x.After != last {
				break
			}
			list, last, at = append(list, x), last+len(x.Events), at+8+n
		}
		if at < len(s) {
			for j := len(segments) - 1; j > i; j-- {
				calls = append(calls, func(d *disk.Disk) api.Errno { return d.Remove("log_" + strconv.Itoa(j+1)) })
			}
			calls = append(calls,
				func(d *disk.Disk) api.Errno { return d.Truncate(name, at) },
				func(d *disk.Disk) api.Errno { return d.Sync(name) })
			return calls, list, i + 1
		}
		calls = append(calls, func(d *disk.Disk) api.Errno { return d.Sync(name) })
	}
	return calls, list, len(segments)
}

// logs is segments of many kinds, whole and broken.
func logs() [][]string {
	l := chain(0, 1, 2, 1, 16, 1, 3)
	a, b, c, d := wires(l[0]), wires(l[1]), wires(l[2]), wires(l[3:]...)
	out := [][]string{
		{}, {""}, {"", ""}, {"x"}, {"x", "y"}, {a}, {a, b, c, d}, {a + b + c + d}, {"", a, "", b + c, "", d, ""},
		{a, b, c, d + "x"}, {a, b, c + "x", d}, {a, b + "x", c, d}, {a + "x", b, c, d}, {"x" + a, b, c, d},
		{a, b, "", c[1:], d}, {a, c, b, d}, {b, a, c, d}, {a, a, b, c}, {a, b, b, c, d}, {a, b[:len(b)-1], c, d},
		{a + b + c[:5], "", d}, {"", "", "x", "", ""}, {wires(wide(0)), wires(wide(6)), wires(wide(12)) + "x", wires(wide(18))},
	}
	for _, bad := range broken() {
		out = append(out, []string{a + b + bad, "", c + d}, []string{a, b, bad, c})
	}
	slices.SortFunc(out, func(a, b []string) int { return strings.Compare(strings.Join(a, "|"), strings.Join(b, "|")) })
	return out
}

// The disk stands still at each call of Open: the calls before it were done, and no others.
func TestOpenCallsTheDiskInOrder(t *testing.T) {
	for _, segments := range logs() {
		calls, list, remain := steps(segments)
		for k := 0; k <= len(calls)+1; k++ {
			d, model := diskOf(t, segments...), diskOf(t, segments...)
			d.Fuse(k)
			for _, call := range calls[:min(k, len(calls))] {
				must(t, "a call of the model", call(model))
			}
			if k < len(calls) {
				if l, got, code := Open(d); l != nil || got != nil || code != api.ErrCrash {
					t.Errorf("Open that stands still at call %d is %d batches, %d", k, len(got), code)
				}
			} else {
				wantOpen(t, "Open that does not stand still", d, list, remain)
			}
			if sayAll(d) != sayAll(model) {
				t.Errorf("after %d calls of Open the disk is %.400s, want %.400s", k, sayAll(d), sayAll(model))
			}
		}
	}
}

// What Open answered is safe, and Open answers it again.
func TestOpenAgain(t *testing.T) {
	for _, segments := range logs() {
		_, list, remain := steps(segments)
		for _, keep := range []int{-1, 0, 1, 8, 1000, math.MaxInt} {
			d := diskOf(t, segments...)
			wantOpen(t, "Open", d, list, remain)
			before := sayAll(d)
			d.Crash(keep)
			wantOpen(t, "Open after a crash", d, list, remain)
			if sayAll(d) != before {
				t.Errorf("Open again changes the disk from %.400s to %.400s", before, sayAll(d))
			}
		}
	}
}

// What was safe is read in the same way after any crashes within Open.
func TestOpenAfterCrashesOfOpen(t *testing.T) {
	for _, segments := range logs() {
		calls, list, remain := steps(segments)
		for k := range calls {
			for j := range len(calls) - k {
				d := syncAll(t, diskOf(t, segments...))
				for _, calls := range []int{k, j} {
					d.Fuse(calls)
					Open(d)
					d.Crash(calls % 3)
				}
				wantOpen(t, "Open after two crashes", d, list, remain)
				mustAppend(t, mustOpen(t, d), one(events(list), 1, 1))
				wantOpen(t, "Open after two crashes and Append", d, append(slices.Clone(list), one(events(list), 1, 1)), mustOpen(t, d).Segments())
			}
		}
	}
}

// P11.2

// The chapter's example.
func TestAppendToAnEmptyDisk(t *testing.T) {
	d := disk.New(roomy)
	l := mustOpen(t, d)
	mustAppend(t, l, one(0, 1, 1))
	wantLog(t, "the example", l, d, 1, 1)
	wantFiles(t, "the example", d, wires(one(0, 1, 1)))
}

func TestAppend(t *testing.T) {
	d := disk.New(roomy)
	log := mustOpen(t, d)
	l := chain(0, 1, 3, 1, 2)
	for i, x := range l {
		mustAppend(t, log, x)
		wantLog(t, "Append", log, d, events(l[:i+1]), 1)
		wantFiles(t, "Append", d, wires(l[:i+1]...))
	}
	wantOpen(t, "what was appended", d, l, 1)
}

// model is where the batches are as P11.2 tells it: each is appended to the last segment while that has room.
type model struct {
	list     []api.Batch
	segments []string
}

func (m *model) append(x api.Batch) {
	n := len(m.segments)
	if n == 0 || len(m.segments[n-1]) >= mostSeg {
		m.segments = append(m.segments, "")
		n++
	}
	m.segments[n-1] += wires(x)
	m.list = append(m.list, x)
}

func (m *model) want(t *testing.T, what string, l *Log) {
	t.Helper()
	wantLog(t, what, l, l.Disk(), events(m.list), len(m.segments))
	wantFiles(t, what, l.Disk(), m.segments...)
}

func TestAppendToManySegments(t *testing.T) {
	d := disk.New(roomy)
	l, m := mustOpen(t, d), &model{}
	for i := range 100 {
		x := chain(l.Last(), i*7%16+1)[0]
		if i%17 == 16 {
			x = wide(l.Last())
		}
		mustAppend(t, l, x)
		m.append(x)
		m.want(t, "Append", l)
		if i%10 == 9 {
			l = wantOpen(t, "what was appended", d, m.list, len(m.segments))
		}
	}
	if len(m.segments) < 15 {
		t.Errorf("there are only %d segments", len(m.segments))
	}
}

// sized is batches, from the first of the log on, whose frames have n bytes together.
func sized(n int) []api.Batch {
	var l []api.Batch
	for after := 0; n > 0; after++ {
		size := len(wires(one(after, 1, 1)))
		more := min(n-size, 40)
		if rest := n - size - more; rest > 0 && rest < 20 {
			more -= 20
		}
		x := one(after, 1+more/2, 1+more-more/2)
		l = append(l, x)
		n -= len(wires(x))
	}
	return l
}

// A segment of MaxSeg bytes is full, and one of a byte less has room for a frame of any length.
func TestAppendAtTheEndOfASegment(t *testing.T) {
	for n := mostSeg - 20; n <= mostSeg+20; n++ {
		list := sized(n)
		if len(wires(list...)) != n {
			t.Fatalf("the frames have %d bytes, not %d", len(wires(list...)), n)
		}
		for what, x := range map[string]api.Batch{"a short one": one(len(list), 1, 1), "a wide one": wide(len(list))} {
			d := diskOf(t, wires(list...))
			want := []string{wires(list...) + wires(x)}
			if n >= mostSeg {
				want = []string{wires(list...), wires(x)}
			}
			l := wantOpen(t, what, d, list, 1)
			mustAppend(t, l, x)
			wantFiles(t, what, d, want...)
			wantLog(t, what, l, d, len(list)+len(x.Events), len(want))
			wantOpen(t, what, d, append(slices.Clone(list), x), len(want))
		}
	}
}

// Only the last segment is asked for its length: one ahead of it is left as it is, with room or without.
func TestAppendToTheLastSegment(t *testing.T) {
	l := chain(0, 1, 2)
	big := wires(wide(3))
	for _, c := range [][]string{{wires(l...), ""}, {"", wires(l...)}, {wires(l[0]), wires(l[1]), "", ""}, {wires(l...), big, ""}} {
		d := diskOf(t, c...)
		log := mustOpen(t, d)
		x := one(log.Last(), 2, 2)
		mustAppend(t, log, x)
		c[len(c)-1] += wires(x)
		wantFiles(t, "Append", d, c...)
		wantLog(t, "Append", log, d, x.After+1, len(c))
	}
	d := diskOf(t, wires(l...), big)
	log := mustOpen(t, d)
	mustAppend(t, log, one(9, 2, 2))
	wantFiles(t, "Append behind a full one", d, wires(l...), big, wires(one(9, 2, 2)))
	wantLog(t, "Append behind a full one", log, d, 10, 3)
}

// A segment may be as long as a file; a frame behind it would have no room there.
func TestAppendBehindTheLongestSegment(t *testing.T) {
	list := sized(mostFile)
	d := diskOf(t, wires(list...))
	l := wantOpen(t, "the longest segment", d, list, 1)
	x := one(len(list), 1, 1)
	mustAppend(t, l, x)
	wantFiles(t, "the longest segment", d, wires(list...), wires(x))
}

// After a cut, the frames go to where the cut was.
func TestAppendAfterACut(t *testing.T) {
	l := chain(0, 1, 2, 1)
	d := diskOf(t, wires(l[0]), wires(l[1])+strings.Repeat("x", 3000), wires(l[2]))
	log := wantOpen(t, "a cut", d, l[:2], 2)
	mustAppend(t, log, l[2])
	wantFiles(t, "a cut", d, wires(l[0]), wires(l[1:]...))
	wantOpen(t, "a cut", d, l, 2)
}

// The longest batch that there may be fits into a frame.
func TestAppendOfTheLongest(t *testing.T) {
	d := disk.New(roomy)
	l := mustOpen(t, d)
	x := api.Batch{Events: slices.Repeat([]api.Event{widest()}, most)}
	mustAppend(t, l, x)
	wantOpen(t, "the longest batch", d, []api.Batch{x}, 1)
}

func TestAppendErrors(t *testing.T) {
	d := diskOf(t, wires(chain(0, 2, 1)...))
	l := mustOpen(t, d)
	good := chain(3, 2)[0]
	with := func(after int, list ...api.Event) api.Batch { return api.Batch{After: after, Events: list} }
	wantRefused(t, "no events", l, with(3), api.ErrEmpty)
	wantRefused(t, "no events and a wrong place", l, with(7), api.ErrEmpty)
	wantRefused(t, "too many events", l, with(3, slices.Repeat(good.Events, 9)...), api.ErrBig)
	wantRefused(t, "too many events and a wrong place", l, with(2, slices.Repeat(good.Events, 9)...), api.ErrBig)
	wantRefused(t, "a wrong name", l, with(3, full(), api.Event{Stream: "s", Type: "7"}), api.ErrName)
	wantRefused(t, "a wrong name and a wrong place", l, with(0, api.Event{}), api.ErrName)
	wantRefused(t, "too many tags", l, with(3, api.Event{Stream: "s", Type: "t", Tags: make([]string, 7)}), api.ErrBig)
	for _, after := range []int{-3, -1, 0, 1, 2, 4, 5, 6, 64, mostLog - 2, mostLog, math.MaxInt, math.MinInt} {
		x := good
		x.After = after
		wantRefused(t, "after "+strconv.Itoa(after), l, x, api.ErrArg)
	}
	d.Fuse(0)
	wantRefused(t, "no events on a disk that stands still", l, with(3), api.ErrEmpty)
	wantRefused(t, "a wrong place on a disk that stands still", l, with(2, full()), api.ErrArg)
	d.Crash(0)
	mustAppend(t, l, good)
	wantFiles(t, "after the errors", d, wires(chain(0, 2, 1, 2)...))
	wantRefused(t, "the same again", l, good, api.ErrArg)
}

// The batches that were refused did not use up calls of the disk.
func TestRefusedAppendsDoNotCallTheDisk(t *testing.T) {
	d := disk.New(roomy)
	l := mustOpen(t, d)
	d.Fuse(2)
	for range 5 {
		wantRefused(t, "no events", l, api.Batch{}, api.ErrEmpty)
		wantRefused(t, "a wrong place", l, one(1, 1, 1), api.ErrArg)
	}
	mustAppend(t, l, one(0, 1, 1))
	wantRefused(t, "the fuse has burnt down", l, one(1, 1, 1), api.ErrCrash)
}

// Where the disk stands still, its error is returned; what the log tells does not change.
func TestAppendOnADiskThatStandsStill(t *testing.T) {
	list := sized(mostSeg)
	for _, segments := range [][]string{{}, {wires(list[:2]...)}, {wires(list...)}} {
		_, all, remain := steps(segments)
		x := one(events(all), 3, 3)
		for k := range 3 {
			d := diskOf(t, segments...)
			l := mustOpen(t, d)
			before := d.Clone()
			d.Fuse(k)
			code := l.Append(x)
			if want := []api.Errno{api.ErrCrash, api.ErrCrash, api.OK}[k]; code != want {
				t.Errorf("Append with a fuse of %d is %d, want %d", k, code, want)
			}
			m := &model{segments: slices.Clone(segments)}
			if k > 0 {
				m.append(x)
			}
			now := diskOf(t, m.segments...)
			now.Crash(1 << 20)
			if sayDisk(d) != sayDisk(now) {
				t.Errorf("after Append with a fuse of %d the disk is %.400s, want %.400s", k, sayDisk(d), sayDisk(now))
			}
			if k < 2 {
				wantLog(t, "Append that stands still", l, d, events(all), remain)
				d.Crash(0)
				wantSafe(t, d, before)
			}
		}
	}
}

// wantSafe fails unless d has what before has, but for a file without bytes.
func wantSafe(t *testing.T, d, before *disk.Disk) {
	t.Helper()
	for _, name := range d.List() {
		b, _ := d.Read(name)
		old, _ := before.Read(name)
		if string(b) != string(old) {
			t.Errorf("%s is %.200q after a crash, want %.200q", name, b, old)
		}
	}
}

func TestAppendWithoutRoom(t *testing.T) {
	size := len(wires(one(0, 1, 1)))
	for quota := range 2*size + 2 {
		d := disk.New(quota)
		l := mustOpen(t, d)
		n := quota / size
		for i := range n {
			mustAppend(t, l, one(i, 1, 1))
		}
		wantRefused(t, "no room", l, one(n, 1, 1), api.ErrSpace)
		wantOpen(t, "no room", d, []api.Batch{one(0, 1, 1), one(1, 1, 1)}[:n], min(n, 1))
	}
}

// A batch that has no room is refused, and a shorter one is appended.
func TestAppendOfAShorterOne(t *testing.T) {
	d := disk.New(100)
	l := mustOpen(t, d)
	wantRefused(t, "no room", l, wide(0), api.ErrSpace)
	mustAppend(t, l, one(0, 1, 1))
	wantRefused(t, "no room", l, wide(1), api.ErrSpace)
	wantOpen(t, "a shorter one", d, []api.Batch{one(0, 1, 1)}, 1)
}

// There are names for 200 segments.
func TestAppendUpToTheLastSegment(t *testing.T) {
	d := disk.New(roomy)
	l, m := mustOpen(t, d), &model{}
	for i := range mostFiles {
		x := wide(6 * i)
		mustAppend(t, l, x)
		m.append(x)
		wantLog(t, "Append", l, d, 6*i+6, i+1)
	}
	m.want(t, "all segments", l)
	wantRefused(t, "segment 201", l, wide(6*mostFiles), api.ErrName)
	wantRefused(t, "segment 201", l, one(6*mostFiles, 1, 1), api.ErrName)
	d.Fuse(0)
	wantRefused(t, "segment 201 of a disk that stands still", l, one(6*mostFiles, 1, 1), api.ErrCrash)
	d.Crash(0)
	d.Fuse(1)
	wantRefused(t, "segment 201, a call of the disk", l, one(6*mostFiles, 1, 1), api.ErrName)
	wantRefused(t, "segment 201, behind a call of the disk", l, one(6*mostFiles, 1, 1), api.ErrCrash)
	d.Crash(0)
	wantOpen(t, "all segments", d, m.list, mostFiles)
}

// Other files take the places of segments.
func TestAppendToADiskFullOfFiles(t *testing.T) {
	d := disk.New(roomy)
	l := mustOpen(t, d)
	mustAppend(t, l, wide(0))
	for i := range mostFiles - 1 {
		must(t, "the disk's Append", d.Append("f"+strconv.Itoa(i), nil))
	}
	wantRefused(t, "one file more", l, one(6, 1, 1), api.ErrBig)
	must(t, "the disk's Remove", d.Remove("f7"))
	mustAppend(t, l, one(6, 1, 1))
	wantOpen(t, "one file less", d, []api.Batch{wide(0), one(6, 1, 1)}, 2)
}

// A log is full with MaxEvents events.
func TestAppendAtTheEndOfTheLog(t *testing.T) {
	d := disk.New(roomy)
	events := slices.Repeat([]api.Event{{Stream: "s", Type: "t"}}, most)
	var segment strings.Builder
	n := 1
	for after := 0; after < mostLog-most; after += most {
		segment.WriteString(wires(api.Batch{After: after, Events: events}))
		if segment.Len() > mostFile-200 {
			must(t, "the disk's Append", d.Append("log_"+strconv.Itoa(n), []byte(segment.String())))
			segment.Reset()
			n++
		}
	}
	must(t, "the disk's Append", d.Append("log_"+strconv.Itoa(n), []byte(segment.String())))
	l, list, code := Open(d)
	if code != api.OK || len(list) != mostLog/most-1 {
		t.Fatalf("Open has %d batches, %d", len(list), code)
	}
	wantLog(t, "almost the end", l, d, mostLog-most, n)
	mustAppend(t, l, api.Batch{After: mostLog - most, Events: events[:most-1]})
	wantLog(t, "ahead of the end", l, d, mostLog-1, l.Segments())
	for _, x := range []api.Batch{{After: mostLog - 1, Events: events[:2]}, {After: mostLog, Events: events[:1]}} {
		if code := l.Append(x); code != api.ErrArg {
			t.Errorf("Append beyond the end is %d", code)
		}
	}
	mustAppend(t, l, api.Batch{After: mostLog - 1, Events: events[:1]})
	wantLog(t, "the end", l, d, mostLog, l.Segments())
	if code := l.Append(api.Batch{After: mostLog, Events: events[:1]}); code != api.ErrArg {
		t.Errorf("Append at the end is %d", code)
	}
	if l, list, code := Open(d); code != api.OK || l.Last() != mostLog || len(list) != mostLog/most+1 {
		t.Errorf("Open at the end has %d batches, %d", len(list), code)
	}
}

// P11.3

// tale is batches for several segments.
func tale() []api.Batch {
	return append([]api.Batch{wide(0), one(6, 1, 1), wide(7), wide(13), one(19, 2, 2), one(20, 3, 3)}, chain(21, 9, 16, 16, 1, 2)...)
}

// wantTold fails unless Open has the first n batches, or one more; it returns how many.
func wantTold(t *testing.T, what string, d *disk.Disk, list []api.Batch, n int) int {
	t.Helper()
	_, got, code := Open(d)
	if code != api.OK || len(got) < n || len(got) > min(n+1, len(list)) || say(got) != say(list[:len(got)]) {
		t.Fatalf("%s: Open has %d batches, %d, want those of %d that were answered, or one more", what, len(got), code, n)
	}
	return len(got)
}

func TestCrashAtAnyCall(t *testing.T) {
	list := tale()
	for k := range 2*len(list) + 1 {
		for _, keep := range []int{-1, 0, 1, 4, 7, 8, 9, 20, 2047, 2048, 2869, 1 << 14, math.MaxInt} {
			d := disk.New(roomy)
			l := mustOpen(t, d)
			d.Fuse(k)
			n := 0
			for n < len(list) && l.Append(list[n]) == api.OK {
				n++
			}
			if n != k/2 {
				t.Fatalf("%d batches were answered in %d calls", n, k)
			}
			d.Crash(keep)
			what := "a crash at call " + strconv.Itoa(k) + " that keeps " + strconv.Itoa(keep)
			had := wantTold(t, what, d, list, n)
			d.Crash(0)
			if wantTold(t, what, d, list, had) != had {
				t.Errorf("%s: Open again has more batches", what)
			}
			l = mustOpen(t, d)
			for _, x := range list[had:] {
				mustAppend(t, l, x)
			}
			wantOpen(t, what, d, list, l.Segments())
		}
	}
}

// The rest of a frame may be kept to each byte.
func TestCrashKeepsAnyBytes(t *testing.T) {
	for _, ahead := range [][]api.Batch{nil, sized(100), sized(mostSeg)} {
		x := chain(events(ahead), 2)[0]
		all := append(slices.Clone(ahead), x)
		for keep := range len(wires(x)) + 2 {
			d := syncAll(t, diskOf(t, wires(ahead...)))
			l := mustOpen(t, d)
			d.Fuse(1)
			if code := l.Append(x); code != api.ErrCrash {
				t.Fatalf("Append is %d", code)
			}
			d.Crash(keep)
			want := ahead
			if keep >= len(wires(x)) {
				want = all
			}
			l = wantOpen(t, "keep "+strconv.Itoa(keep), d, want, mustOpen(t, d).Segments())
			if len(want) == len(ahead) {
				mustAppend(t, l, x)
			}
			d.Crash(0)
			wantOpen(t, "keep "+strconv.Itoa(keep)+" and Append", d, all, l.Segments())
		}
	}
}

// dice throws the same numbers in each run.
type dice uint64

func (x *dice) throw(n int) int {
	*x = *x*6364136223846793005 + 1442695040888963407
	return int(uint64(*x)>>33) % n
}

func pick(x *dice, after int) api.Batch {
	switch x.throw(4) {
	case 0:
		return wide(after)
	case 1:
		return one(after, x.throw(24)+1, x.throw(24)+1)
	}
	return chain(after, x.throw(most)+1)[0]
}

// Long runs of appends and crashes, within Open too.
func TestManyCrashes(t *testing.T) {
	for seed := range 20 {
		x := dice(seed)
		d := disk.New(roomy)
		var list []api.Batch
		for range 20 {
			l, _, code := Open(d)
			if code == api.OK && l.Last() != events(list) {
				t.Fatalf("run %d: there are %d events, want %d", seed, l.Last(), events(list))
			}
			d.Fuse(x.throw(12))
			for code == api.OK {
				next := pick(&x, events(list))
				if code = l.Append(next); code == api.OK {
					list = append(list, next)
					continue
				}
				d.Crash(x.throw(3) * x.throw(1500))
				if c := d.Clone(); wantTold(t, "run "+strconv.Itoa(seed), c, append(slices.Clone(list), next), len(list)) > len(list) {
					list = append(list, next)
				}
			}
			if x.throw(2) == 0 {
				d.Fuse(x.throw(4))
				Open(d)
			}
			d.Crash(x.throw(3) * x.throw(1500))
		}
		wantOpen(t, "run "+strconv.Itoa(seed), d, list, mustOpen(t, d).Segments())
	}
}

// Any bytes in any segment: Open does what P11.1 tells, and the log goes on.
func TestAnyBytes(t *testing.T) {
	var bad []string
	for _, s := range broken() {
		bad = append(bad, s)
	}
	slices.Sort(bad)
	for seed := range 1500 {
		x := dice(seed)
		var segments []string
		after := 0
		for range x.throw(6) {
			s := ""
			for range x.throw(5) {
				switch x.throw(12) {
				case 0:
					s += bad[x.throw(len(bad))]
				case 1:
					b := []byte(wires(pick(&x, after)))
					b[x.throw(len(b))] ^= byte(1 << x.throw(8))
					s += string(b)
				default:
					next := pick(&x, after)
					s += wires(next)
					after += len(next.Events)
				}
			}
			segments = append(segments, s)
		}
		calls, list, remain := steps(segments)
		d, m := diskOf(t, segments...), diskOf(t, segments...)
		for _, call := range calls {
			must(t, "a call of the model", call(m))
		}
		what := "run " + strconv.Itoa(seed)
		l := wantOpen(t, what, d, list, remain)
		if sayAll(d) != sayAll(m) {
			t.Errorf("%s: the disk is %.400s, want %.400s", what, sayAll(d), sayAll(m))
		}
		next := pick(&x, events(list))
		mustAppend(t, l, next)
		wantOpen(t, what+" and Append", d, append(list, next), l.Segments())
	}
}

// R6, R7

func TestArgumentsAreLeftAlone(t *testing.T) {
	d := disk.New(roomy)
	l := mustOpen(t, d)
	row := []api.Event{full(), full(), full(), full()}
	before := say([]api.Batch{{Events: row}})
	mustAppend(t, l, api.Batch{Events: row[:2]})
	if say([]api.Batch{{Events: row}}) != before {
		t.Errorf("Append changes the events that it was given")
	}
	files := sayAll(d)
	row[0].Tags[0], row[1].Fields[0].N, row[0].Stream = "z:z", 99, "z"
	if sayAll(d) != files {
		t.Errorf("a change of the argument of Append is seen on the disk")
	}
	wantOpen(t, "a changed argument", d, []api.Batch{{Events: []api.Event{full(), full()}}}, 1)
}

func TestResultsBelongToTheCaller(t *testing.T) {
	list := chain(0, 2, 2)
	d := diskOf(t, wires(list...))
	l, got, code := Open(d)
	must(t, "Open", code)
	other, again, code := Open(d)
	must(t, "Open", code)
	if l == other {
		t.Errorf("Open returns the same log twice")
	}
	for _, x := range got {
		for i := range x.Events {
			clear(x.Events[i].Tags[:cap(x.Events[i].Tags)])
			clear(x.Events[i].Fields[:cap(x.Events[i].Fields)])
		}
		clear(x.Events[:cap(x.Events)])
	}
	clear(got[:cap(got)])
	if say(again) != say(list) {
		t.Errorf("a change of one result is seen in another")
	}
	wantFiles(t, "a changed result", d, wires(list...))
	mustAppend(t, l, one(4, 1, 1))
	wantOpen(t, "a changed result", d, append(list, one(4, 1, 1)), 1)
}

// The disk is the caller's: what others do to it the log sees.
func TestTheDiskIsShared(t *testing.T) {
	d := disk.New(roomy)
	l := mustOpen(t, d)
	mustAppend(t, l, one(0, 1, 1))
	if l.Disk() != d {
		t.Errorf("Disk is another one")
	}
	must(t, "the disk's Append", d.Append("log_2", []byte(strings.Repeat("x", mostSeg))))
	mustAppend(t, l, one(1, 1, 1))
	wantLog(t, "another file", l, d, 2, 1)
	b, _ := d.Read("log_1")
	if string(b) != wires(one(0, 1, 1), one(1, 1, 1)) {
		t.Errorf("the first segment is %x", b)
	}
}

// Two logs know nothing of each other.
func TestLogsAreIndependent(t *testing.T) {
	a, b := disk.New(roomy), disk.New(roomy)
	la, lb := mustOpen(t, a), mustOpen(t, b)
	mustAppend(t, la, chain(0, 3)[0])
	wantLog(t, "the other one", lb, b, 0, 0)
	mustAppend(t, lb, one(0, 1, 1))
	wantLog(t, "the first one", la, a, 3, 1)
	wantFiles(t, "the first one", a, wires(chain(0, 3)...))
	wantFiles(t, "the other one", b, wires(one(0, 1, 1)))
}

// A log that Open did not make has no disk, and does not panic.
func TestZeroValue(t *testing.T) {
	var l Log
	if l.Last() != 0 || l.Segments() != 0 || l.Disk() != nil {
		t.Errorf("the zero value has %d events in %d segments", l.Last(), l.Segments())
	}
	for _, w := range []struct {
		x    api.Batch
		want api.Errno
	}{{api.Batch{}, api.ErrEmpty}, {one(0, 1, 1), api.ErrArg}, {one(1, 1, 1), api.ErrArg}} {
		if code := l.Append(w.x); code != w.want {
			t.Errorf("Append to the zero value is %d, want %d", code, w.want)
		}
	}
}
