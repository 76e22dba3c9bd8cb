package disk

import (
	"bytes"
	"math"
	"slices"
	"strconv"
	"strings"
	"testing"

	"registrar/api"
)

// roomy is a quota that no test here reaches with files of a few bytes.
const roomy = 1 << 20

// say writes out all that can be read of a disk, each text in quotes, so that two disks have the same text
// only if their files are equal.
func say(d *Disk) string {
	s := strconv.Itoa(d.Used()) + " bytes:"
	for _, name := range d.List() {
		b, code := d.Read(name)
		s += " " + name + "=" + strconv.Quote(string(b))
		if code != api.OK {
			s += " error " + strconv.Itoa(int(code))
		}
	}
	return s
}

// sayAfter is what would be read of d after a crash; d stays as it is.
func sayAfter(d *Disk, keep int) string {
	c := d.Clone()
	c.Crash(keep)
	return say(c)
}

// sayAll is what can be read of d now and after a crash: the safe bytes of each file too.
func sayAll(d *Disk) string {
	return say(d) + "; safe " + sayAfter(d, 0)
}

func want(t *testing.T, what string, got, want api.Errno) {
	t.Helper()
	if got != want {
		t.Errorf("%s is %d, want %d", what, got, want)
	}
}

func wantRead(t *testing.T, d *Disk, name, content string) {
	t.Helper()
	if b, code := d.Read(name); string(b) != content || code != api.OK {
		t.Errorf("Read of %q is %q, %d, want %q", name, b, code, content)
	}
}

func wantNone(t *testing.T, d *Disk, name string) {
	t.Helper()
	if b, code := d.Read(name); b != nil || code != api.ErrNone {
		t.Errorf("Read of %q is %q, %d, want ErrNone", name, b, code)
	}
}

func wantList(t *testing.T, d *Disk, names ...string) {
	t.Helper()
	if got := d.List(); !slices.Equal(got, names) {
		t.Errorf("List is %q, want %q", got, names)
	}
}

func wantUsed(t *testing.T, d *Disk, n int) {
	t.Helper()
	if got := d.Used(); got != n {
		t.Errorf("Used is %d, want %d", got, n)
	}
}

// wantRefused fails unless call has that error, and changes nothing, neither what is read nor what is safe.
func wantRefused(t *testing.T, what string, d *Disk, code api.Errno, call func() api.Errno) {
	t.Helper()
	before := sayAll(d)
	want(t, what, call(), code)
	if after := sayAll(d); after != before {
		t.Errorf("%s changes the disk from %.200s to %.200s", what, before, after)
	}
}

func mustAppend(t *testing.T, d *Disk, name, content string) {
	t.Helper()
	if code := d.Append(name, []byte(content)); code != api.OK {
		t.Fatalf("Append of %d bytes to %q is %d", len(content), name, code)
	}
}

func must(t *testing.T, what string, code api.Errno) {
	t.Helper()
	if code != api.OK {
		t.Fatalf("%s is %d", what, code)
	}
}

// disk returns one with a file for each of the pairs of a name and bytes; those ahead of a bar are synced.
func disk(t *testing.T, pairs ...string) *Disk {
	t.Helper()
	d := New(roomy)
	for i := 0; i < len(pairs); i += 2 {
		safe, rest, _ := strings.Cut(pairs[i+1], "|")
		mustAppend(t, d, pairs[i], safe)
		must(t, "Sync", d.Sync(pairs[i]))
		mustAppend(t, d, pairs[i], rest)
	}
	return d
}

// wrongNames are no file names.
func wrongNames() []string {
	return []string{"", "A", "Z", "a b", " ", "a-b", "-", ".", "a.b", "/", "a/b", "log:1", "\x00", "a\x00", "\n", "a\n",
		"\u00e9", "\u03bb", "\xff", "\u0661", "aB", "Ba", "@", "[", "`", "{", strings.Repeat("a", 21), strings.Repeat("\u03bb", 10),
		strings.Repeat("_", 22), strings.Repeat("a", 40), strings.Repeat("a", 20) + "\n", strings.Repeat("a", 1<<16)}
}

// May

func TestMay(t *testing.T) {
	const good = "abcdefghijklmnopqrstuvwxyz0123456789_"
	for c := range 256 {
		s := string([]byte{byte(c)})
		ok := strings.IndexByte(good, byte(c)) >= 0
		for _, name := range []string{s, "a" + s, s + "a", "log_" + s + "7", strings.Repeat("a", 19) + s, strings.Repeat(s, 20)} {
			if May(name) != ok {
				t.Errorf("May(%q) is %v", name, !ok)
			}
		}
	}
	for n := range 60 {
		if ok := n >= 1 && n <= 20; May(strings.Repeat("z", n)) != ok {
			t.Errorf("May of %d characters is %v", n, !ok)
		}
	}
	for _, name := range wrongNames() {
		if May(name) {
			t.Errorf("May(%q) is true", name)
		}
	}
	for _, name := range []string{"0", "_", "7a", "log_1", "check_new", "abcdefghijklmnopqrst", "uvwxyz0123456789____"} {
		if !May(name) {
			t.Errorf("May(%q) is false", name)
		}
	}
}

// P8.1: Append

func TestNewHasNoFiles(t *testing.T) {
	for _, quota := range []int{0, 1, -1, roomy, math.MaxInt, math.MinInt} {
		d := New(quota)
		wantList(t, d)
		wantUsed(t, d, 0)
		wantNone(t, d, "a")
	}
}

func TestAppend(t *testing.T) {
	d := New(roomy)
	mustAppend(t, d, "a", "12")
	mustAppend(t, d, "b", "xyz")
	mustAppend(t, d, "a", "34")
	wantRead(t, d, "a", "1234")
	wantRead(t, d, "b", "xyz")
	wantList(t, d, "a", "b")
	wantUsed(t, d, 7)
	mustAppend(t, d, "a", "")
	wantRead(t, d, "a", "1234")
}

func TestAppendOfNothingCreates(t *testing.T) {
	d := New(0)
	must(t, "Append of nil", d.Append("a", nil))
	must(t, "Append of no bytes", d.Append("b", []byte{}))
	wantList(t, d, "a", "b")
	wantRead(t, d, "a", "")
	wantRead(t, d, "b", "")
	wantUsed(t, d, 0)
}

func TestAppendTakesAnyBytes(t *testing.T) {
	d := New(roomy)
	var all []byte
	for c := range 256 {
		all = append(all, byte(c))
		must(t, "Append", d.Append("a", []byte{byte(c)}))
	}
	wantRead(t, d, "a", string(all))
}

func TestAppendToWrongNames(t *testing.T) {
	d := disk(t, "a", "12|3")
	for _, name := range wrongNames() {
		wantRefused(t, "Append to "+strconv.Quote(name), d, api.ErrName, func() api.Errno { return d.Append(name, []byte("x")) })
		wantRefused(t, "Append to "+strconv.Quote(name), d, api.ErrName, func() api.Errno { return d.Append(name, nil) })
	}
}

func TestAppendUpToTheGreatestFile(t *testing.T) {
	const most = 1 << 16
	for _, n := range []int{0, 1, 2, most / 2, most - 1, most} {
		d := New(roomy)
		must(t, "Append", d.Append("a", make([]byte, n)))
		if n > 0 {
			wantRefused(t, "Append over the greatest file", d, api.ErrBig, func() api.Errno { return d.Append("a", make([]byte, most-n+1)) })
		}
		wantRefused(t, "Append far over the greatest file", d, api.ErrBig, func() api.Errno { return d.Append("a", make([]byte, 3*most)) })
		must(t, "Append up to the greatest file", d.Append("a", make([]byte, most-n)))
		wantUsed(t, d, most)
		wantRefused(t, "Append to the greatest file", d, api.ErrBig, func() api.Errno { return d.Append("a", []byte{1}) })
		must(t, "Append of nothing to the greatest file", d.Append("a", nil))
	}
	d := New(roomy)
	wantRefused(t, "Append over the greatest file", d, api.ErrBig, func() api.Errno { return d.Append("a", make([]byte, most+1)) })
	wantList(t, d)
}

// full has as many files as there may be.
func full(t *testing.T, quota int) *Disk {
	t.Helper()
	d := New(quota)
	for i := range 200 {
		mustAppend(t, d, "f"+strconv.Itoa(i), "")
	}
	return d
}

func TestAppendUpToAllFiles(t *testing.T) {
	d := full(t, 10)
	if n := len(d.List()); n != 200 {
		t.Fatalf("there are %d files", n)
	}
	wantRefused(t, "Append to file 201", d, api.ErrBig, func() api.Errno { return d.Append("a", nil) })
	wantRefused(t, "Append to file 201", d, api.ErrBig, func() api.Errno { return d.Append("a", []byte("x")) })
	mustAppend(t, d, "f0", "x")
	mustAppend(t, d, "f199", "y")
	must(t, "Rename", d.Rename("f7", "b"))
	wantRefused(t, "Append to file 201", d, api.ErrBig, func() api.Errno { return d.Append("f7", nil) })
	must(t, "Remove", d.Remove("b"))
	mustAppend(t, d, "a", "z")
	wantRefused(t, "Append to file 201", d, api.ErrBig, func() api.Errno { return d.Append("b", nil) })
}

func TestAppendUpToTheQuota(t *testing.T) {
	d := New(5)
	mustAppend(t, d, "a", "123")
	wantRefused(t, "Append over the quota", d, api.ErrSpace, func() api.Errno { return d.Append("a", []byte("456")) })
	wantRefused(t, "Append over the quota", d, api.ErrSpace, func() api.Errno { return d.Append("b", []byte("456")) })
	mustAppend(t, d, "b", "45")
	wantUsed(t, d, 5)
	for _, name := range []string{"a", "b", "c"} {
		wantRefused(t, "Append to a full disk", d, api.ErrSpace, func() api.Errno { return d.Append(name, []byte("6")) })
	}
	mustAppend(t, d, "c", "")
	must(t, "Truncate", d.Truncate("a", 1))
	mustAppend(t, d, "c", "67")
	wantRefused(t, "Append over the quota", d, api.ErrSpace, func() api.Errno { return d.Append("c", []byte("8")) })
	must(t, "Remove", d.Remove("b"))
	mustAppend(t, d, "c", "89")
	wantRead(t, d, "c", "6789")
	d.Crash(0)
	wantUsed(t, d, 0)
	mustAppend(t, d, "a", "12345")
}

func TestAppendWithoutQuota(t *testing.T) {
	for _, quota := range []int{0, -1, -5, math.MinInt} {
		d := New(quota)
		wantRefused(t, "Append without quota", d, api.ErrSpace, func() api.Errno { return d.Append("a", []byte("x")) })
		wantList(t, d)
		mustAppend(t, d, "a", "")
		wantRefused(t, "Append without quota", d, api.ErrSpace, func() api.Errno { return d.Append("a", []byte("x")) })
		c := d.Clone()
		wantRefused(t, "Append without quota", c, api.ErrSpace, func() api.Errno { return c.Append("a", []byte("x")) })
	}
	d := New(math.MaxInt)
	mustAppend(t, d, "a", "x")
	wantRead(t, d, "a", "x")
}

func TestAppendNamesTheFirstError(t *testing.T) {
	big, over := make([]byte, 1<<16+1), make([]byte, 11)
	d := full(t, 10)
	for _, c := range []struct {
		name string
		b    []byte
		want api.Errno
	}{
		{"A", big, api.ErrName}, {"A", over, api.ErrName}, {"", nil, api.ErrName},
		{"a", big, api.ErrBig}, {"a", over, api.ErrBig}, {"a", nil, api.ErrBig},
		{"f0", big, api.ErrBig}, {"f0", over, api.ErrSpace}, {"f0", over[:10], api.OK},
	} {
		want(t, "Append of "+strconv.Itoa(len(c.b))+" to "+c.name, d.Append(c.name, c.b), c.want)
	}
	wantUsed(t, d, 10)
}

// P8.1: Sync, Rename, Truncate, Remove

func TestSync(t *testing.T) {
	d := disk(t, "a", "|12", "b", "x|yz")
	must(t, "Sync", d.Sync("a"))
	if got, want := sayAll(d), `5 bytes: a="12" b="xyz"; safe 3 bytes: a="12" b="x"`; got != want {
		t.Errorf("after Sync: %s, want %s", got, want)
	}
	mustAppend(t, d, "a", "34")
	must(t, "Sync", d.Sync("a"))
	must(t, "Sync", d.Sync("a"))
	must(t, "Sync", d.Sync("b"))
	if got, want := sayAll(d), `7 bytes: a="1234" b="xyz"; safe 7 bytes: a="1234" b="xyz"`; got != want {
		t.Errorf("after Sync: %s, want %s", got, want)
	}
}

func TestRename(t *testing.T) {
	d := disk(t, "a", "12|34", "b", "x|")
	must(t, "Rename", d.Rename("a", "c_7"))
	if got, want := sayAll(d), `5 bytes: b="x" c_7="1234"; safe 3 bytes: b="x" c_7="12"`; got != want {
		t.Errorf("after Rename: %s, want %s", got, want)
	}
	wantNone(t, d, "a")
	mustAppend(t, d, "a", "new")
	mustAppend(t, d, "c_7", "5")
	must(t, "Rename", d.Rename("b", "0"))
	must(t, "Rename", d.Rename("a", "b"))
	if got, want := sayAll(d), `9 bytes: 0="x" b="new" c_7="12345"; safe 3 bytes: 0="x" b="" c_7="12"`; got != want {
		t.Errorf("after Rename: %s, want %s", got, want)
	}
}

func TestRenameErrors(t *testing.T) {
	d := disk(t, "a", "1|2", "b", "3|4")
	for _, to := range append(wrongNames(), "a", "b", "c") {
		for _, from := range append(wrongNames(), "c", "d") {
			wantRefused(t, "Rename of no file", d, api.ErrNone, func() api.Errno { return d.Rename(from, to) })
		}
	}
	for _, to := range wrongNames() {
		wantRefused(t, "Rename to "+strconv.Quote(to), d, api.ErrName, func() api.Errno { return d.Rename("a", to) })
	}
	wantRefused(t, "Rename to another file", d, api.ErrExists, func() api.Errno { return d.Rename("a", "b") })
	wantRefused(t, "Rename to itself", d, api.ErrExists, func() api.Errno { return d.Rename("a", "a") })
}

func TestTruncate(t *testing.T) {
	for n, want := range []string{
		`1 bytes: a="" b="x"; safe 1 bytes: a="" b="x"`,
		`2 bytes: a="1" b="x"; safe 2 bytes: a="1" b="x"`,
		`3 bytes: a="12" b="x"; safe 3 bytes: a="12" b="x"`,
		`4 bytes: a="123" b="x"; safe 3 bytes: a="12" b="x"`,
		`5 bytes: a="1234" b="x"; safe 3 bytes: a="12" b="x"`,
	} {
		d := disk(t, "a", "12|34", "b", "x|")
		must(t, "Truncate", d.Truncate("a", n))
		if got := sayAll(d); got != want {
			t.Errorf("after Truncate to %d: %s, want %s", n, got, want)
		}
	}
}

// What is appended behind the place of a Truncate is not safe, though bytes that stood there were.
func TestAppendBehindTruncate(t *testing.T) {
	d := disk(t, "a", "1234|")
	must(t, "Truncate", d.Truncate("a", 1))
	mustAppend(t, d, "a", "xyz")
	if got, want := sayAll(d), `4 bytes: a="1xyz"; safe 1 bytes: a="1"`; got != want {
		t.Errorf("after Truncate and Append: %s, want %s", got, want)
	}
}

func TestTruncateErrors(t *testing.T) {
	d := disk(t, "a", "12|3", "b", "|")
	for _, n := range []int{-1, -2, 4, 5, 1 << 16, 1 << 32, math.MinInt, math.MaxInt} {
		wantRefused(t, "Truncate to "+strconv.Itoa(n), d, api.ErrArg, func() api.Errno { return d.Truncate("a", n) })
		wantRefused(t, "Truncate of no file to "+strconv.Itoa(n), d, api.ErrNone, func() api.Errno { return d.Truncate("c", n) })
	}
	wantRefused(t, "Truncate beyond an empty file", d, api.ErrArg, func() api.Errno { return d.Truncate("b", 1) })
	wantRefused(t, "Truncate of an empty file", d, api.OK, func() api.Errno { return d.Truncate("b", 0) })
}

func TestRemove(t *testing.T) {
	d := disk(t, "a", "12|34", "b", "x|")
	must(t, "Remove", d.Remove("a"))
	wantNone(t, d, "a")
	if got, want := sayAll(d), `1 bytes: b="x"; safe 1 bytes: b="x"`; got != want {
		t.Errorf("after Remove: %s, want %s", got, want)
	}
	want(t, "the second Remove", d.Remove("a"), api.ErrNone)
	mustAppend(t, d, "a", "567")
	if got, want := sayAll(d), `4 bytes: a="567" b="x"; safe 1 bytes: a="" b="x"`; got != want {
		t.Errorf("after Append to what was removed: %s, want %s", got, want)
	}
}

func TestCallsForNoFile(t *testing.T) {
	d := disk(t, "a", "1|2")
	for _, name := range append(wrongNames(), "b", "aa", "a_") {
		for _, c := range changes(name, "c", 0) {
			if c.what != "Append" {
				wantRefused(t, c.what+" of "+strconv.Quote(name), d, api.ErrNone, func() api.Errno { return c.call(d) })
			}
		}
		wantRefused(t, "Turn of "+strconv.Quote(name), d, api.ErrNone, func() api.Errno { return d.Turn(name, 0) })
		wantNone(t, d, name)
	}
}

// P8.2: Fuse

type change struct {
	what string
	call func(d *Disk) api.Errno
}

// changes has a call of each of the five methods that a fuse counts.
func changes(name, to string, n int) []change {
	return []change{
		{"Append", func(d *Disk) api.Errno { return d.Append(name, []byte("x")) }},
		{"Sync", func(d *Disk) api.Errno { return d.Sync(name) }},
		{"Rename", func(d *Disk) api.Errno { return d.Rename(name, to) }},
		{"Truncate", func(d *Disk) api.Errno { return d.Truncate(name, n) }},
		{"Remove", func(d *Disk) api.Errno { return d.Remove(name) }},
	}
}

// harmless has calls that no fuse counts. They leave the disk as it is.
func harmless(d *Disk) {
	May("a")
	d.Read("a")
	d.Read("none")
	d.List()
	d.Used()
	d.Turn("a", 0)
	d.Turn("a", 0)
	d.Turn("a", -1)
	d.Turn("none", 0)
	c := d.Clone()
	c.Append("a", nil)
	c.Sync("a")
	c.Crash(0)
}

func TestBurntFuseStopsEachCall(t *testing.T) {
	for _, c := range append(changes("a", "b", 1), append(changes("none", "", -1), changes("A", "a", 9)...)...) {
		d := disk(t, "a", "12|34")
		d.Fuse(0)
		for range 3 {
			wantRefused(t, c.what, d, api.ErrCrash, func() api.Errno { return c.call(d) })
			harmless(d)
		}
	}
	d := disk(t, "a", "12|34")
	d.Fuse(0)
	wantRefused(t, "a great Append", d, api.ErrCrash, func() api.Errno { return d.Append("a", make([]byte, 1<<17)) })
	wantRefused(t, "Append over the quota", d, api.ErrCrash, func() api.Errno { return d.Append("b", make([]byte, 1<<16)) })
	wantRefused(t, "Rename to another file", d, api.ErrCrash, func() api.Errno { return d.Rename("a", "a") })
}

func TestFuseCountsCalls(t *testing.T) {
	for _, c := range changes("a", "b", 1) {
		for n := range 6 {
			d := disk(t, "a", "12|34")
			d.Fuse(n)
			for range n {
				harmless(d)
				if code := c.call(d); code == api.ErrCrash {
					t.Fatalf("%s stops within %d calls", c.what, n)
				}
			}
			wantRefused(t, "call "+strconv.Itoa(n+1)+" of "+c.what, d, api.ErrCrash, func() api.Errno { return c.call(d) })
		}
	}
}

// Each of the five methods counts as any other, one with an error too.
func TestFuseCountsAllCallsTogether(t *testing.T) {
	for _, name := range []string{"a", "none", "A"} {
		l := changes(name, "b", 1)
		for n := range len(l) + 1 {
			d := disk(t, "a", "12|34")
			d.Fuse(n)
			for i, c := range l {
				if code := c.call(d); (code == api.ErrCrash) != (i >= n) {
					t.Errorf("fuse %d: call %d, %s of %q, is %d", n, i+1, c.what, name, code)
				}
			}
		}
	}
}

func TestFuseOfLessThanNothing(t *testing.T) {
	for _, n := range []int{-1, -2, math.MinInt} {
		d := New(roomy)
		d.Fuse(n)
		wantRefused(t, "Append", d, api.ErrCrash, func() api.Errno { return d.Append("a", nil) })
	}
}

func TestFuseOfManyCalls(t *testing.T) {
	for _, n := range []int{1000, 1 << 32, math.MaxInt} {
		d := New(roomy)
		d.Fuse(n)
		for range 1000 {
			mustAppend(t, d, "a", "x")
		}
		if code := d.Sync("a"); (code == api.ErrCrash) != (n == 1000) {
			t.Errorf("call 1001 with a fuse of %d is %d", n, code)
		}
	}
}

func TestNoFuse(t *testing.T) {
	d := New(roomy)
	for range 5000 {
		mustAppend(t, d, "a", "x")
		must(t, "Sync", d.Sync("a"))
	}
	wantUsed(t, d, 5000)
}

func TestFuseReplacesFuse(t *testing.T) {
	for first := range 4 {
		for second := range 4 {
			for calls := range 4 {
				d := New(roomy)
				d.Fuse(first)
				for range calls {
					d.Append("a", nil)
				}
				d.Fuse(second)
				for range second {
					mustAppend(t, d, "a", "x")
				}
				want(t, "Append", d.Append("a", nil), api.ErrCrash)
			}
		}
	}
}

func TestCrashTakesTheFuseAway(t *testing.T) {
	for n := range 3 {
		d := disk(t, "a", "12|")
		d.Fuse(n)
		for range 2 { // the fuse has burnt down, or has not yet
			d.Append("a", []byte("x"))
		}
		d.Crash(0)
		wantRead(t, d, "a", "12")
		for range 10 {
			mustAppend(t, d, "a", "y")
		}
		d.Fuse(1)
		mustAppend(t, d, "a", "z")
		want(t, "Append with a new fuse", d.Append("a", nil), api.ErrCrash)
	}
}

// P8.2: Crash

func TestCrashExample(t *testing.T) {
	d := New(roomy)
	mustAppend(t, d, "a", "1234")
	must(t, "Sync", d.Sync("a"))
	mustAppend(t, d, "a", "56")
	d.Crash(1)
	wantRead(t, d, "a", "12345")
}

func TestCrashKeeps(t *testing.T) {
	for _, c := range []struct {
		keep int
		want string
	}{
		{math.MinInt, `7 bytes: a="12" b="" c="" d="vwxyz"`},
		{-1, `7 bytes: a="12" b="" c="" d="vwxyz"`},
		{0, `7 bytes: a="12" b="" c="" d="vwxyz"`},
		{1, `9 bytes: a="123" b="p" c="" d="vwxyz"`},
		{2, `11 bytes: a="1234" b="pq" c="" d="vwxyz"`},
		{3, `12 bytes: a="1234" b="pqr" c="" d="vwxyz"`},
		{4, `12 bytes: a="1234" b="pqr" c="" d="vwxyz"`},
		{math.MaxInt - 1, `12 bytes: a="1234" b="pqr" c="" d="vwxyz"`},
		{math.MaxInt, `12 bytes: a="1234" b="pqr" c="" d="vwxyz"`},
	} {
		d := disk(t, "a", "12|34", "b", "|pqr", "c", "|", "d", "vwxyz|")
		d.Crash(c.keep)
		if got := say(d); got != c.want {
			t.Errorf("after Crash(%d): %s, want %s", c.keep, got, c.want)
		}
		for range 2 { // what remained is safe
			d.Crash(-1)
			if got := say(d); got != c.want {
				t.Errorf("after Crash(%d) and another: %s, want %s", c.keep, got, c.want)
			}
		}
		mustAppend(t, d, "a", "!")
		if got := sayAfter(d, 0); got != c.want {
			t.Errorf("after Crash(%d), Append and another: %s, want %s", c.keep, got, c.want)
		}
	}
}

func TestCrashOfNoFiles(t *testing.T) {
	d := New(roomy)
	d.Crash(5)
	wantList(t, d)
}

// P8.3

func TestListIsInOrder(t *testing.T) {
	d := New(0)
	names := []string{"b", "a", "_", "aa", "z", "log_10", "log_9", "log_1", "0", "9", "a0", "a_", "ab"}
	for _, name := range names {
		mustAppend(t, d, name, "")
	}
	for range 20 {
		wantList(t, d, "0", "9", "_", "a", "a0", "a_", "aa", "ab", "b", "log_1", "log_10", "log_9", "z")
	}
	if got := full(t, 0).List(); len(got) != 200 || !slices.IsSorted(got) {
		t.Errorf("List has %d names: %q", len(got), got)
	}
}

func TestTurn(t *testing.T) {
	d := disk(t, "a", "12|34", "b", "12|34", "e", "|")
	must(t, "Turn", d.Turn("a", 0))
	must(t, "Turn", d.Turn("a", 3))
	if got, want := sayAll(d), `8 bytes: a="0235" b="1234" e=""; safe 4 bytes: a="02" b="12" e=""`; got != want {
		t.Errorf("after Turn: %s, want %s", got, want)
	}
	must(t, "Turn", d.Turn("a", 0))
	must(t, "Turn", d.Turn("a", 3))
	wantRead(t, d, "a", "1234")
	for _, at := range []int{-1, 4, 5, 1 << 16, math.MinInt, math.MaxInt} {
		wantRefused(t, "Turn at "+strconv.Itoa(at), d, api.ErrArg, func() api.Errno { return d.Turn("a", at) })
		wantRefused(t, "Turn of no file", d, api.ErrNone, func() api.Errno { return d.Turn("c", at) })
	}
	wantRefused(t, "Turn of an empty file", d, api.ErrArg, func() api.Errno { return d.Turn("e", 0) })
}

func TestTurnOfEachByte(t *testing.T) {
	d := New(roomy)
	var all []byte
	for c := range 256 {
		all = append(all, byte(c))
	}
	mustAppend(t, d, "a", string(all))
	for at := range all {
		must(t, "Turn", d.Turn("a", at))
		all[at] ^= 1
		wantRead(t, d, "a", string(all))
	}
}

// A byte that was cut off has no index any more.
func TestTurnBehindTheEnd(t *testing.T) {
	d := disk(t, "a", "12|34")
	must(t, "Truncate", d.Truncate("a", 3))
	want(t, "Turn behind a Truncate", d.Turn("a", 3), api.ErrArg)
	d.Crash(0)
	want(t, "Turn behind a Crash", d.Turn("a", 2), api.ErrArg)
	must(t, "Turn", d.Turn("a", 1))
	wantRead(t, d, "a", "13")
}

func TestReadingWithABurntFuse(t *testing.T) {
	d := disk(t, "a", "12|34")
	d.Fuse(0)
	want(t, "Append", d.Append("a", nil), api.ErrCrash)
	must(t, "Turn", d.Turn("a", 0))
	want(t, "Turn behind the end", d.Turn("a", 4), api.ErrArg)
	want(t, "Turn of no file", d.Turn("b", 0), api.ErrNone)
	wantRead(t, d, "a", "0234")
	wantNone(t, d, "b")
	wantList(t, d, "a")
	wantUsed(t, d, 4)
	want(t, "Append to a clone", d.Clone().Append("a", nil), api.ErrCrash)
}

// Clone and R7

// upset calls all that changes d.
func upset(d *Disk) {
	d.Turn("a", 0)
	d.Append("a", []byte("more"))
	d.Sync("a")
	d.Truncate("b", 0)
	d.Rename("c", "d")
	d.Remove("e")
	d.Append("new", []byte("n"))
	d.Fuse(0)
	d.Append("a", nil)
	d.Crash(0)
	d.Append("a", []byte("more"))
	d.Fuse(0)
}

func TestClonesAreApart(t *testing.T) {
	build := func() *Disk { return disk(t, "a", "12|34", "b", "x|", "c", "|", "e", "567|8") }
	whole := sayAll(build())
	d := build()
	c := d.Clone()
	upset(d)
	if got := sayAll(c); got != whole {
		t.Errorf("a change of a disk is seen in its clone: %s, want %s", got, whole)
	}
	mustAppend(t, c, "a", "")
	d = build()
	c = d.Clone()
	upset(c)
	if got := sayAll(d); got != whole {
		t.Errorf("a change of a clone is seen in its disk: %s, want %s", got, whole)
	}
	mustAppend(t, d, "a", "")
}

// Two disks that append to the same bytes must not write to the same memory.
func TestClonesShareNoSpareCapacity(t *testing.T) {
	for n := range 70 {
		d := disk(t, "a", strings.Repeat("x", n)+"|yy")
		must(t, "Truncate", d.Truncate("a", n))
		c := d.Clone()
		mustAppend(t, d, "a", "d")
		mustAppend(t, c, "a", "c")
		wantRead(t, d, "a", strings.Repeat("x", n)+"d")
		wantRead(t, c, "a", strings.Repeat("x", n)+"c")
	}
}

func TestClonesHaveTheQuotaAndTheFuse(t *testing.T) {
	d := New(3)
	mustAppend(t, d, "a", "12")
	c := d.Clone()
	wantRefused(t, "Append over the quota", c, api.ErrSpace, func() api.Errno { return c.Append("a", []byte("34")) })
	d.Fuse(2)
	must(t, "Sync", d.Sync("a"))
	c = d.Clone()
	for range 3 {
		must(t, "a call of a clone with the rest of the fuse", c.Clone().Sync("a"))
	}
	must(t, "Sync", c.Sync("a"))
	want(t, "Sync of the clone", c.Sync("a"), api.ErrCrash)
	must(t, "Sync", d.Sync("a"))
	want(t, "Sync", d.Sync("a"), api.ErrCrash)
	c.Crash(0)
	must(t, "Sync", c.Sync("a"))
	want(t, "Sync", d.Sync("a"), api.ErrCrash)
}

func TestArgumentsAreLeftAlone(t *testing.T) {
	d := New(roomy)
	row := []byte("12345678")
	must(t, "Append", d.Append("a", row[:3]))
	must(t, "Append", d.Append("b", row[:3]))
	must(t, "Append", d.Append("a", []byte("xyz")))
	must(t, "Turn", d.Turn("a", 0))
	must(t, "Turn", d.Turn("b", 0))
	d.Crash(0)
	if string(row) != "12345678" {
		t.Errorf("the argument of Append became %q", row)
	}
	must(t, "Append", d.Append("a", row[:3]))
	clear(row)
	wantRead(t, d, "a", "123")
}

func TestResultsBelongToTheCaller(t *testing.T) {
	d := disk(t, "a", "1234|5678", "b", "x|")
	must(t, "Truncate", d.Truncate("a", 6))
	b, _ := d.Read("a")
	other, _ := d.Read("a")
	names := d.List()
	clear(b[:cap(b)])
	clear(names[:cap(names)])
	if string(other) != "123456" {
		t.Errorf("a change of one result is seen in another: %q", other)
	}
	wantRead(t, d, "a", "123456")
	wantList(t, d, "a", "b")
	must(t, "Turn", d.Turn("a", 0))
	mustAppend(t, d, "a", "!")
	d.Crash(0)
	if string(other) != "123456" {
		t.Errorf("a change of the disk is seen in what was read: %q", other)
	}
	wantRead(t, d, "a", "0234")
}

func TestAppendOfWhatWasRead(t *testing.T) {
	d := disk(t, "a", "12|3")
	for range 3 {
		b, _ := d.Read("a")
		must(t, "Append", d.Append("a", b))
	}
	wantRead(t, d, "a", strings.Repeat("123", 8))
}

// A disk that New did not make has no room, and does not panic.
func TestZeroValue(t *testing.T) {
	var d Disk
	wantList(t, &d)
	wantUsed(t, &d, 0)
	wantNone(t, &d, "a")
	for _, c := range changes("a", "b", 0) {
		if c.what != "Append" {
			want(t, c.what, c.call(&d), api.ErrNone)
		}
	}
	want(t, "Append", d.Append("a", []byte("x")), api.ErrSpace)
	wantList(t, d.Clone())
	must(t, "Append to a clone", d.Clone().Append("a", nil))
	must(t, "Append of nothing", d.Append("a", nil))
	d.Crash(0)
	wantList(t, &d, "a")
}

// P8.1 to P8.4 together: long runs beside a model, which keeps the safe bytes and the others of a file apart.

type modelFile struct{ name, safe, loose string }

type model struct {
	quota, fuse int // a fuse of -1 is none
	files       []modelFile
}

func (m *model) find(name string) int {
	return slices.IndexFunc(m.files, func(f modelFile) bool { return f.name == name })
}

func (m *model) used() int {
	n := 0
	for _, f := range m.files {
		n += len(f.safe + f.loose)
	}
	return n
}

// try counts a call, and does it unless the fuse has burnt down.
func (m *model) try(call func() api.Errno) api.Errno {
	if m.fuse == 0 {
		return api.ErrCrash
	}
	if m.fuse > 0 {
		m.fuse--
	}
	return call()
}

func (m *model) append(name, content string) api.Errno {
	i := m.find(name)
	had := 0
	if i >= 0 {
		had = len(m.files[i].safe + m.files[i].loose)
	}
	if len(name) == 0 || len(name) > 20 || strings.Trim(name, "abcdefghijklmnopqrstuvwxyz0123456789_") != "" {
		return api.ErrName
	}
	if had+len(content) > 65536 || i < 0 && len(m.files) == 200 {
		return api.ErrBig
	}
	if m.used()+len(content) > m.quota && m.used()+len(content) > 0 {
		return api.ErrSpace
	}
	if i < 0 {
		m.files = append(m.files, modelFile{name: name})
		i = len(m.files) - 1
	}
	m.files[i].loose += content
	return api.OK
}

func (m *model) sync(name string) api.Errno {
	i := m.find(name)
	if i < 0 {
		return api.ErrNone
	}
	m.files[i].safe += m.files[i].loose
	m.files[i].loose = ""
	return api.OK
}

func (m *model) rename(from, to string) api.Errno {
	i := m.find(from)
	switch {
	case i < 0:
		return api.ErrNone
	case len(to) == 0 || len(to) > 20 || strings.Trim(to, "abcdefghijklmnopqrstuvwxyz0123456789_") != "":
		return api.ErrName
	case m.find(to) >= 0:
		return api.ErrExists
	}
	m.files[i].name = to
	return api.OK
}

func (m *model) truncate(name string, n int) api.Errno {
	i := m.find(name)
	if i < 0 {
		return api.ErrNone
	}
	f := &m.files[i]
	switch {
	case n < 0 || n > len(f.safe+f.loose):
		return api.ErrArg
	case n <= len(f.safe):
		f.safe, f.loose = f.safe[:n], ""
	default:
		f.loose = f.loose[:n-len(f.safe)]
	}
	return api.OK
}

func (m *model) remove(name string) api.Errno {
	i := m.find(name)
	if i < 0 {
		return api.ErrNone
	}
	m.files = slices.Delete(m.files, i, i+1)
	return api.OK
}

func (m *model) crash(keep int) {
	for i, f := range m.files {
		for j := 0; j < keep && j < len(f.loose); j++ {
			m.files[i].safe += f.loose[j : j+1]
		}
		m.files[i].loose = ""
	}
	m.fuse = -1
}

func (m *model) turn(name string, at int) api.Errno {
	i := m.find(name)
	if i < 0 {
		return api.ErrNone
	}
	f := &m.files[i]
	b := []byte(f.safe + f.loose)
	if at < 0 || at >= len(b) {
		return api.ErrArg
	}
	if b[at]%2 == 0 {
		b[at]++
	} else {
		b[at]--
	}
	f.safe, f.loose = string(b[:len(f.safe)]), string(b[len(f.safe):])
	return api.OK
}

// say has the form of say of a disk.
func (m *model) say(part func(f modelFile) string) string {
	l := slices.Clone(m.files)
	slices.SortFunc(l, func(a, b modelFile) int { return strings.Compare(a.name, b.name) })
	n, s := 0, ""
	for _, f := range l {
		n += len(part(f))
		s += " " + f.name + "=" + strconv.Quote(part(f))
	}
	return strconv.Itoa(n) + " bytes:" + s
}

func (m *model) sayAll() string {
	return m.say(func(f modelFile) string { return f.safe + f.loose }) +
		"; safe " + m.say(func(f modelFile) string { return f.safe })
}

// dice throws the same numbers in each run.
type dice uint64

func (x *dice) throw(n int) int {
	*x = *x*6364136223846793005 + 1442695040888963407
	return int(uint64(*x)>>33) % n
}

func (x *dice) pick(l []string) string {
	return l[x.throw(len(l))]
}

// callBoth calls the same on both, and returns both errors.
func callBoth(d *Disk, m *model, x *dice) (what string, got, want api.Errno) {
	names := []string{"a", "b", "c", "log_1", "A", ""}
	name, to := x.pick(names), x.pick(names)
	n := x.throw(14) - 2
	content := "ABCDEFGHIJKLMNOP"[:x.throw(12)]
	switch x.throw(12) {
	case 0, 1, 2, 3:
		return "Append " + name + " " + content, d.Append(name, []byte(content)), m.try(func() api.Errno { return m.append(name, content) })
	case 4, 5:
		return "Sync " + name, d.Sync(name), m.try(func() api.Errno { return m.sync(name) })
	case 6:
		return "Rename " + name + " " + to, d.Rename(name, to), m.try(func() api.Errno { return m.rename(name, to) })
	case 7:
		return "Truncate " + name + " " + strconv.Itoa(n), d.Truncate(name, n), m.try(func() api.Errno { return m.truncate(name, n) })
	case 8:
		return "Remove " + name, d.Remove(name), m.try(func() api.Errno { return m.remove(name) })
	case 9:
		d.Fuse(3 * n)
		m.fuse = max(3*n, 0)
		return "Fuse " + strconv.Itoa(3*n), api.OK, api.OK
	case 10:
		d.Crash(n)
		m.crash(n)
		return "Crash " + strconv.Itoa(n), api.OK, api.OK
	}
	return "Turn " + name + " " + strconv.Itoa(n), d.Turn(name, n), m.turn(name, n)
}

func TestLongRuns(t *testing.T) {
	for _, quota := range []int{-3, 0, 7, 30, roomy} {
		for seed := range 40 {
			d, m, x := New(quota), &model{quota: quota, fuse: -1}, dice(seed)
			for i := range 300 {
				what, got, want := callBoth(d, m, &x)
				if got != want || sayAll(d) != m.sayAll() {
					t.Fatalf("quota %d, run %d, call %d: %s is %d, want %d; then %s, want %s", quota, seed, i, what, got, want, sayAll(d), m.sayAll())
				}
			}
		}
	}
}

// P8.4: what was synced is read after each of several crashes, unless a call took it away.
func TestWhatWasSyncedStays(t *testing.T) {
	for seed := range 200 {
		x := dice(seed)
		d, synced := New(roomy), map[string]string{}
		for range 100 {
			name := x.pick([]string{"a", "b", "c"})
			d.Append(name, bytes.Repeat([]byte{byte('a' + x.throw(26))}, x.throw(9)))
			if d.Sync(x.pick([]string{name, "none"})) == api.OK {
				b, _ := d.Read(name)
				synced[name] = string(b)
			}
			if x.throw(5) == 0 {
				d.Fuse(x.throw(5))
			}
			if x.throw(5) == 0 {
				d.Crash(x.throw(5) - 1)
			}
			for name, safe := range synced {
				if b, code := d.Read(name); code != api.OK || !strings.HasPrefix(string(b), safe) {
					t.Fatalf("run %d: %q is %q, %d, and was synced as %q", seed, name, b, code, safe)
				}
			}
		}
	}
}
