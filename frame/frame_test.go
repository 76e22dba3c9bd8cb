package frame

import (
	"bytes"
	"encoding/binary"
	"encoding/hex"
	"hash/crc32"
	"slices"
	"testing"

	"registrar/api"
	"registrar/crc"
)

// most is the greatest number of bytes in a frame, written out as the chapter has it.
const most = 16384

// noise returns n bytes without a pattern, the same ones in each run.
func noise(n int, seed uint64) []byte {
	b := make([]byte, n)
	for i := range b {
		seed = seed*6364136223846793005 + 1442695040888963407
		b[i] = byte(seed >> 56)
	}
	return b
}

// bodies has no bytes, few and many, and such as look like a part of a frame, or are one.
func bodies() [][]byte {
	l := [][]byte{nil, {}, {0}, {255}, make([]byte, 4), make([]byte, 8), []byte("123456789"), {1, 0, 0, 0}, {255, 255, 255, 255}}
	for n := range 40 {
		l = append(l, make([]byte, n), bytes.Repeat([]byte{255}, n), noise(n, uint64(n)))
	}
	for _, n := range []int{255, 256, 257, 511, 512, 2047, 2048, 4096, most - 1, most} {
		l = append(l, noise(n, 7))
	}
	return append(l, wire(nil), wire([]byte("inside")), wire(wire(nil)), join(wire(nil), wire([]byte("a"))))
}

func join(l ...[]byte) []byte {
	return slices.Concat(l...)
}

func little(x int) []byte {
	return binary.LittleEndian.AppendUint32(nil, uint32(x))
}

// wire is the form of a frame as P9.1 words it, by the library's sums; it refuses nothing.
func wire(b []byte) []byte {
	return claim(len(b), b)
}

// claim is like a frame, with a right sum, but says that it has n bytes.
func claim(n int, b []byte) []byte {
	length := little(n)
	sum := crc32.ChecksumIEEE(join(length, b))
	return join(length, little(int(sum)), b)
}

func wires(l ...[]byte) []byte {
	var out []byte
	for _, b := range l {
		out = append(out, wire(b)...)
	}
	return out
}

// slowScan is Scan as P9.1 words it, by the library's sums.
func slowScan(b []byte) (l [][]byte, at int) {
	for len(b)-at >= 8 {
		n := int(binary.LittleEndian.Uint32(b[at:]))
		if n > most || n > len(b)-at-8 {
			break
		}
		body := b[at+8 : at+8+n]
		if !bytes.Equal(wire(body), b[at:at+8+n]) {
			break
		}
		l, at = append(l, body), at+8+n
	}
	return l, at
}

func wantPut(t *testing.T, table *crc.Table, b, want []byte) {
	t.Helper()
	if got, code := Put(table, b); code != api.OK || !bytes.Equal(got, want) {
		t.Errorf("Put of %d bytes is %.40x, %d, want %.40x", len(b), got, code, want)
	}
}

func wantTake(t *testing.T, what string, table *crc.Table, b, body []byte, n int) {
	t.Helper()
	if got, k := Take(table, b); k != n || !bytes.Equal(got, body) {
		t.Errorf("%s: Take of %d bytes is %.40x, %d, want %.40x, %d", what, len(b), got, k, body, n)
	}
}

func wantNoFrame(t *testing.T, what string, table *crc.Table, b []byte) {
	t.Helper()
	if got, n := Take(table, b); len(got) != 0 || n != 0 {
		t.Errorf("%s: Take of %.40x is %.40x, %d, want no bytes and 0", what, b, got, n)
	}
	wantScan(t, what, table, b, nil, 0)
}

func same(a, b [][]byte) bool {
	return slices.EqualFunc(a, b, bytes.Equal)
}

func wantScan(t *testing.T, what string, table *crc.Table, b []byte, l [][]byte, n int) {
	t.Helper()
	if got, k := Scan(table, b); k != n || !same(got, l) {
		t.Errorf("%s: Scan of %d bytes is %d frames of %d bytes, want %d of %d, with the same contents", what, len(b), len(got), k, len(l), n)
	}
}

// P9.1, Put

func TestPutExamples(t *testing.T) {
	table := crc.New()
	for s, want := range map[string]string{
		"":                  "00000000" + "1cdf4421",
		"a":                 "01000000" + "638ff7c1" + "61",
		"\x00":              "01000000" + "adde42fb" + "00",
		"123456789":         "09000000" + "e2611ca5" + "313233343536373839",
		"\x00\x00\x00\x00":  "04000000" + "93d168e1" + "00000000",
		"\x1c\xdf\x44\x21!": "05000000" + "0ca2dcc0" + "1cdf442121",
	} {
		b, e := hex.DecodeString(want)
		if e != nil {
			t.Fatal(e)
		}
		wantPut(t, &table, []byte(s), b)
		wantTake(t, "example", &table, b, []byte(s), len(b))
		wantScan(t, "example", &table, b, [][]byte{[]byte(s)}, len(b))
	}
}

func TestPutFollowsTheRule(t *testing.T) {
	table := crc.New()
	for _, b := range bodies() {
		wantPut(t, &table, b, wire(b))
	}
}

// Each length, so that each byte of the length counts.
func TestPutOfEachLength(t *testing.T) {
	table := crc.New()
	b := noise(most, 1)
	for n := 0; n <= most; n += 1 + n/50 {
		wantPut(t, &table, b[:n], wire(b[:n]))
	}
}

func TestPutTooBig(t *testing.T) {
	table := crc.New()
	wantPut(t, &table, make([]byte, most), wire(make([]byte, most)))
	for _, n := range []int{most + 1, most + 2, 2 * most, 1 << 16, 1<<16 + 1, 1 << 20, 1 << 24} {
		if got, code := Put(&table, make([]byte, n)); got != nil || code != api.ErrBig {
			t.Errorf("Put of %d bytes is %d bytes, %d, want none and ErrBig", n, len(got), code)
		}
	}
}

// P9.1, Take

func TestTakeWhatWasPut(t *testing.T) {
	table := crc.New()
	for _, b := range bodies() {
		f, code := Put(&table, b)
		if code != api.OK {
			t.Fatalf("Put of %d bytes is %d", len(b), code)
		}
		wantTake(t, "alone", &table, f, b, len(b)+8)
		for _, rest := range [][]byte{{0}, {255}, []byte("rest"), make([]byte, 8), wire(nil), wire(b), f[:len(f)-1], noise(most, 3)} {
			wantTake(t, "something behind it", &table, join(f, rest), b, len(b)+8)
		}
	}
}

func TestTakeOfTooFewBytes(t *testing.T) {
	table := crc.New()
	wantNoFrame(t, "nil", &table, nil)
	for n := range 8 {
		wantNoFrame(t, "zeros", &table, make([]byte, n))
		wantNoFrame(t, "255s", &table, bytes.Repeat([]byte{255}, n))
		wantNoFrame(t, "the beginning of a head", &table, wire(nil)[:n])
	}
	for _, b := range bodies() {
		f := wire(b)
		for n := 0; n < len(f); n += 1 + n/50 {
			wantNoFrame(t, "the beginning of a frame", &table, f[:n])
		}
		wantNoFrame(t, "the last byte missing", &table, f[:len(f)-1])
	}
}

// A frame must begin with the first byte.
func TestTakeOfWhatIsNoFrame(t *testing.T) {
	table := crc.New()
	for n := range 40 {
		wantNoFrame(t, "zeros", &table, make([]byte, 8+n))
		wantNoFrame(t, "255s", &table, bytes.Repeat([]byte{255}, 8+n))
		wantNoFrame(t, "noise", &table, noise(8+n, uint64(n)))
	}
	for _, b := range [][]byte{nil, {0}, []byte("123456789"), noise(300, 4)} {
		wantNoFrame(t, "a zero ahead", &table, join([]byte{0}, wire(b)))
		wantNoFrame(t, "eight bytes ahead", &table, join([]byte("12345678"), wire(b)))
		wantNoFrame(t, "the first byte missing", &table, wire(b)[1:])
		wantNoFrame(t, "the length missing", &table, wire(b)[4:])
	}
}

// Heads with the right parts in the wrong form.
func TestTakeOfOtherForms(t *testing.T) {
	table := crc.New()
	sum := func(l ...[]byte) []byte { return little(int(crc32.ChecksumIEEE(join(l...)))) }
	turn := func(b []byte) []byte {
		c := bytes.Clone(b)
		slices.Reverse(c)
		return c
	}
	for _, b := range [][]byte{{1}, []byte("123456789"), noise(300, 4), make([]byte, 20)} {
		length := little(len(b))
		right := sum(length, b)
		wantTake(t, "the right form", &table, join(length, right, b), b, len(b)+8)
		wantNoFrame(t, "length turned round", &table, join(turn(length), sum(turn(length), b), b))
		wantNoFrame(t, "sum turned round", &table, join(length, turn(right), b))
		wantNoFrame(t, "sum of the bytes alone", &table, join(length, sum(b), b))
		wantNoFrame(t, "sum of the length alone", &table, join(length, sum(length), b))
		wantNoFrame(t, "sum of the bytes and then the length", &table, join(length, sum(b, length), b))
		wantNoFrame(t, "sum of a sum of zeros too", &table, join(length, sum(length, make([]byte, 4), b), b))
		wantNoFrame(t, "sum first", &table, join(right, length, b))
		wantNoFrame(t, "sum last", &table, join(length, b, right))
		wantNoFrame(t, "no sum", &table, join(length, b))
		not := bytes.Clone(right)
		for i := range not {
			not[i] = ^not[i]
		}
		wantNoFrame(t, "sum not inverted", &table, join(length, not, b))
		wantNoFrame(t, "length in eight bytes", &table, join(length, make([]byte, 4), sum(length, make([]byte, 4), b), b))
	}
}

// The sum is right, but the length is not that of the bytes: there is no b of which it is the frame.
func TestTakeOfOtherLengths(t *testing.T) {
	table := crc.New()
	b := noise(300, 5)
	for _, n := range []int{0, 1, 299, 301, 302, 556, most, most + 1, 1<<16 + 300, 1<<24 + 300, 1<<31 - 1, 1 << 31, 1<<31 + 300, 1<<32 - 300, 1<<32 - 8, 1<<32 - 1} {
		wantNoFrame(t, "another length", &table, claim(n, b))
	}
	wantTake(t, "the length", &table, claim(300, b), b, 308)
}

// Put makes no frames of more than most bytes, so none are taken, though all of their bytes are there.
func TestTakeOfTooMuch(t *testing.T) {
	table := crc.New()
	big := noise(1<<20, 6)
	wantTake(t, "most bytes", &table, wire(big[:most]), big[:most], most+8)
	for _, n := range []int{most + 1, most + 2, 2 * most, 1 << 16, 1 << 20} {
		wantNoFrame(t, "more than the most", &table, wire(big[:n]))
		l := [][]byte{[]byte("first")}
		wantScan(t, "more than the most", &table, join(wire(l[0]), wire(big[:n]), wire(l[0])), l, 13)
	}
}

// For each contents there is one sum, and for each sum one head.
func TestTakeOfOtherSums(t *testing.T) {
	table := crc.New()
	b := []byte("body")
	right := wire(b)
	for i := 4; i < 8; i++ {
		for c := range 256 {
			f := bytes.Clone(right)
			f[i] = byte(c)
			if !bytes.Equal(f, right) {
				wantNoFrame(t, "another sum", &table, f)
			}
		}
	}
}

// P9.1, Scan

// rows of contents, such as frames of the same bytes, of none, and of most of them.
func rows() [][][]byte {
	var mixed [][]byte
	for n := range 30 {
		mixed = append(mixed, noise(n*n%37, uint64(n)))
	}
	return [][][]byte{
		nil,
		{nil},
		{nil, nil, nil},
		{[]byte("a")},
		{[]byte("a"), nil, []byte("bc"), []byte("bc"), nil},
		{wire(nil), wire([]byte("inside")), wires(nil, nil)},
		{make([]byte, 8), make([]byte, 9)},
		{noise(most, 1), noise(most-1, 2), nil, noise(most, 1)},
		mixed,
	}
}

func TestScanWhatWasPut(t *testing.T) {
	table := crc.New()
	for _, l := range rows() {
		var b []byte
		for _, body := range l {
			f, code := Put(&table, body)
			if code != api.OK {
				t.Fatalf("Put of %d bytes is %d", len(body), code)
			}
			b = append(b, f...)
		}
		wantScan(t, "alone", &table, b, l, len(b))
		for _, rest := range [][]byte{{0}, {255}, []byte("rest"), make([]byte, 8), make([]byte, 100), wire(nil)[:7], wire([]byte("abc"))[:10]} {
			wantScan(t, "something behind them", &table, join(b, rest), l, len(b))
		}
	}
}

// What Scan answers is what Take answers, again and again.
func TestScanIsTakeAgainAndAgain(t *testing.T) {
	table := crc.New()
	for _, l := range rows() {
		b := join(wires(l...), []byte{1, 0, 0, 0})
		var got [][]byte
		at := 0
		for {
			body, n := Take(&table, b[at:])
			if n == 0 {
				break
			}
			got, at = append(got, body), at+n
		}
		wantScan(t, "take by take", &table, b, got, at)
	}
}

// Frames behind a place where none begins are not told.
func TestScanEndsAtTheFirstFault(t *testing.T) {
	table := crc.New()
	a, b := []byte("first"), []byte("second")
	bad := wire([]byte("bad"))
	bad[8] ^= 1
	for _, fault := range [][]byte{{0}, bad, make([]byte, 8), claim(most+1, []byte("bad")), wire(b)[1:]} {
		wantScan(t, "a fault between", &table, join(wire(a), wire(a), fault, wire(b)), [][]byte{a, a}, 26)
		wantScan(t, "a fault ahead", &table, join(fault, wire(a), wire(b)), nil, 0)
		wantScan(t, "a fault behind", &table, join(wire(a), wire(b), fault), [][]byte{a, b}, 27)
	}
}

// A long row is scanned once, not again from its beginning for each frame.
func TestScanOfManyFrames(t *testing.T) {
	table := crc.New()
	const n = 1 << 18
	b := bytes.Repeat(wire(nil), n)
	wantScan(t, "many frames without bytes", &table, b, make([][]byte, n), 8*n)
	body := []byte("many")
	l := slices.Repeat([][]byte{body}, n)
	wantScan(t, "many frames", &table, join(bytes.Repeat(wire(body), n), []byte("rest")), l, 12*n)
}

// P9.2

// before counts the frames that end at or before that place.
func before(l [][]byte, at int) (n, end int) {
	for _, body := range l {
		if end+8+len(body) > at {
			break
		}
		n, end = n+1, end+8+len(body)
	}
	return n, end
}

// inLength reports whether that place is one of the first four bytes of a frame.
func inLength(l [][]byte, at int) bool {
	_, end := before(l, at)
	return at-end < 4
}

func TestScanOfTruncatedFrames(t *testing.T) {
	table := crc.New()
	for _, l := range rows() {
		b := wires(l...)
		for at := 0; at <= len(b); at += 1 + at/100 {
			n, end := before(l, at)
			wantScan(t, "truncated", &table, b[:at], l[:n], end)
		}
		for i := range l { // and just around the places where a frame ends
			n := len(wires(l[:i]...))
			for at := max(n-2, 0); at <= min(n+9, len(b)); at++ {
				k, end := before(l, at)
				wantScan(t, "truncated near an end", &table, b[:at], l[:k], end)
			}
		}
	}
}

func changed(b []byte, at int, by byte) []byte {
	c := bytes.Clone(b)
	c[at] ^= by
	return c
}

// wantChange fails unless Scan finds that a byte of the frames of l was changed. In the length of a frame a changed
// byte may, by chance, make another frame; what Scan answers is then what the library's sums say.
func wantChange(t *testing.T, table *crc.Table, l [][]byte, b []byte, at int) {
	t.Helper()
	n, end := before(l, at)
	if !inLength(l, at) {
		wantScan(t, "a byte changed", table, b, l[:n], end)
		return
	}
	got, k := Scan(table, b)
	if len(got) < n || k < end || !same(got[:n], l[:n]) {
		t.Errorf("byte %d changed, of a length: Scan is %d frames of %d bytes, want at least %d of %d", at, len(got), k, n, end)
	}
	want, m := slowScan(b)
	wantScan(t, "a byte of a length changed", table, b, want, m)
}

func TestScanOfAChangedByte(t *testing.T) {
	table := crc.New()
	for _, l := range rows() {
		b := wires(l...)
		if len(b) > 2000 {
			continue
		}
		for at := range b {
			for _, by := range []byte{1, 2, 4, 8, 16, 32, 64, 128, 255, 254, 127, 0xAA, 0x55, 3, 0x81} {
				wantChange(t, &table, l, changed(b, at, by), at)
			}
		}
	}
}

func TestScanOfAByteChangedInAnyWay(t *testing.T) {
	table := crc.New()
	l := [][]byte{[]byte("first"), nil, []byte("123456789")}
	b := wires(l...)
	for at := range b {
		for by := 1; by < 256; by++ {
			wantChange(t, &table, l, changed(b, at, byte(by)), at)
		}
	}
}

func TestScanOfAChangedByteInManyBytes(t *testing.T) {
	table := crc.New()
	l := [][]byte{noise(most, 8), noise(5000, 9), nil, noise(most, 10)}
	b := wires(l...)
	for _, start := range []int{0, most + 8, most + 5016, most + 5024} {
		for _, i := range []int{0, 1, 2, 3, 4, 5, 6, 7, 8, 9, 100, 4000, 5007} {
			for _, by := range []byte{1, 128, 255} {
				wantChange(t, &table, l, changed(b, min(start+i, len(b)-1), by), min(start+i, len(b)-1))
			}
		}
	}
	wantChange(t, &table, l, changed(b, len(b)-1, 1), len(b)-1)
}

// forge returns four bytes that, behind b, give the sum want. Each step of a sum is undone by the entry that has
// the same highest byte.
func forge(b []byte, want uint32) []byte {
	r := ^want
	for range 4 {
		i := slices.IndexFunc(crc32.IEEETable[:], func(x uint32) bool { return x>>24 == r>>24 })
		r = (r^crc32.IEEETable[i])<<8 | uint32(i)
	}
	return little(int(r ^ ^crc32.ChecksumIEEE(b)))
}

// A changed byte of a length can, by chance, make another frame: that one is told then, and those that follow it.
func TestScanOfALengthThatFitsByChance(t *testing.T) {
	table := crc.New()
	first, short := []byte("first"), []byte("ab")
	inner := wires(nil, []byte("c"))
	start := join(short, inner, []byte("rest"))
	sum := crc32.ChecksumIEEE(join(little(len(short)), short))
	long := join(start, forge(join(little(len(start)+4), start), sum))
	b := wires(first, long, first)
	wantScan(t, "the long one", &table, b, [][]byte{first, long, first}, len(b))
	b[13] ^= byte(len(long)) ^ byte(len(short))
	wantScan(t, "a length that fits", &table, b, [][]byte{first, short, nil, []byte("c")}, 13+10+len(inner))
}

// The table decides.

func TestFramesOfAnotherTable(t *testing.T) {
	table := crc.New()
	var zeros crc.Table
	other := crc.New()
	other[3] ^= 0x80000001
	for _, x := range []*crc.Table{&zeros, &other} {
		for _, b := range [][]byte{nil, {0}, []byte("123456789"), noise(300, 1)} {
			length := little(len(b))
			want := join(length, little(int(x.Sum(join(length, b)))), b)
			wantPut(t, x, b, want)
			wantTake(t, "its own table", x, want, b, len(b)+8)
			wantScan(t, "its own table", x, join(want, want), [][]byte{b, b}, 2*len(want))
			if x.Sum(join(length, b)) != table.Sum(join(length, b)) {
				wantNoFrame(t, "another table", &table, want)
				wantNoFrame(t, "another table", x, wire(b))
			}
		}
	}
}

// R6 and R7

// spare is b within a greater array of 7s, so that its spare capacity can be looked at.
func spare(b []byte) (whole, part []byte) {
	whole = bytes.Repeat([]byte{7}, len(b)+most+64)
	copy(whole, b)
	return whole, whole[:len(b)]
}

// wipe overwrites all that the caller of a result may.
func wipe(b []byte) {
	clear(b[:cap(b)])
}

func TestArgumentsStayAsTheyWere(t *testing.T) {
	table := crc.New()
	calls := map[string]func(b []byte){
		"Put": func(b []byte) {
			got, _ := Put(&table, b)
			wipe(got)
		},
		"Take": func(b []byte) {
			got, _ := Take(&table, b)
			wipe(got)
		},
		"Scan": func(b []byte) {
			l, _ := Scan(&table, b)
			for _, got := range l {
				wipe(got)
			}
			clear(l[:cap(l)])
		},
	}
	for what, call := range calls {
		for _, body := range bodies() {
			for _, b := range [][]byte{body, wire(body), wires(body, body), join(wire(body), []byte("rest")), changed(wire(body), 5, 1)} {
				whole, part := spare(b)
				was := bytes.Clone(whole)
				call(part)
				if !bytes.Equal(whole, was) {
					t.Errorf("%s changes its argument of %d bytes, or what lies behind it", what, len(b))
				}
			}
		}
	}
	if table != crc.New() {
		t.Error("the table was changed")
	}
}

func TestResultsAreTheCallers(t *testing.T) {
	table := crc.New()
	for _, body := range bodies() {
		_, part := spare(body)
		f, _ := Put(&table, part)
		again, _ := Put(&table, part)
		wipe(part)
		wipe(again)
		if !bytes.Equal(f, wire(body)) {
			t.Errorf("Put of %d bytes answers memory that is not its own", len(body))
		}
		_, part = spare(f)
		got, _ := Take(&table, part)
		again, _ = Take(&table, part)
		wipe(part)
		wipe(again)
		if !bytes.Equal(got, body) {
			t.Errorf("Take of a frame of %d bytes answers memory that is not its own", len(body))
		}
	}
}

// Each contents of an answer stands apart from the others, its spare capacity too.
func TestScannedFramesStandApart(t *testing.T) {
	table := crc.New()
	for _, l := range rows() {
		for i := range l {
			_, part := spare(wires(l...))
			got, _ := Scan(&table, part)
			again, _ := Scan(&table, part)
			wipe(part)
			for _, body := range again {
				wipe(body)
			}
			clear(again[:cap(again)])
			wipe(got[i])
			_ = append(got[i], noise(most+64, 1)...)
			for k, body := range got {
				if k != i && !bytes.Equal(body, l[k]) {
					t.Errorf("frame %d of %d is changed with frame %d or the argument", k, len(l), i)
				}
			}
		}
	}
}

// What was put, taken or refused earlier is not seen in a later answer.
func TestCallsAreApart(t *testing.T) {
	table := crc.New()
	b := []byte("123456789")
	for range 3 {
		wantPut(t, &table, b, wire(b))
		Put(&table, make([]byte, most+1))
		wantNoFrame(t, "between", &table, make([]byte, 20))
		wantScan(t, "between", &table, wires(b, nil, b), [][]byte{b, nil, b}, 42)
		wantTake(t, "between", &table, wires(nil, b), nil, 8)
	}
}

// Whatever bytes are scanned, what is answered are frames of Put, and no other one follows.
func FuzzScan(f *testing.F) {
	table := crc.New()
	for _, l := range rows()[:7] {
		b := wires(l...)
		f.Add(b)
		f.Add(join(b, []byte("rest")))
		f.Add(b[:len(b)/2])
	}
	f.Fuzz(func(t *testing.T, b []byte) {
		l, n := Scan(&table, b)
		want, k := slowScan(b)
		if n != k || !same(l, want) {
			t.Fatalf("Scan of %x is %x, %d, want %x, %d", b, l, n, want, k)
		}
		var again []byte
		for _, body := range l {
			f, code := Put(&table, body)
			if code != api.OK {
				t.Fatalf("Put of what was scanned is %d", code)
			}
			again = append(again, f...)
		}
		if !bytes.Equal(again, b[:n]) {
			t.Fatalf("%x was scanned, but Put makes %x", b[:n], again)
		}
		if body, m := Take(&table, b[n:]); m != 0 || len(body) != 0 {
			t.Fatalf("Take of what Scan left is %x, %d", body, m)
		}
	})
}
