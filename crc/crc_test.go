package crc

import (
	"bytes"
	"hash/crc32"
	"math/bits"
	"testing"

	"registrar/api"
)

// noise returns n bytes without a pattern, the same ones in each run.
func noise(n int, seed uint64) []byte {
	b := make([]byte, n)
	for i := range b {
		seed = seed*6364136223846793005 + 1442695040888963407
		b[i] = byte(seed >> 56)
	}
	return b
}

// bodies has no bytes, few and many; zeros and 255s at both ends, where a sum that starts with 0 would miss them.
func bodies() [][]byte {
	l := [][]byte{nil, {}, {0}, {255}, {0, 0}, {0, 0, 0, 0}, {255, 255, 255, 255}, []byte("123456789"), []byte("a\x00"), []byte("\x00a")}
	for n := range 70 {
		l = append(l, make([]byte, n), bytes.Repeat([]byte{255}, n), noise(n, uint64(n)))
	}
	for _, n := range []int{255, 256, 257, 2048, 1 << 14, 1<<16 - 1, 1 << 16, 1<<20 + 1} {
		l = append(l, noise(n, 7))
	}
	return l
}

// slowSum is the checksum bit by bit, without a table.
func slowSum(b []byte) uint32 {
	r := ^uint32(0)
	for _, c := range b {
		for i := range 8 {
			turn := (r ^ uint32(c>>i)) & 1
			r = r/2 ^ turn*0xEDB88320
		}
	}
	return ^r
}

func wantNoSeal(t *testing.T, what string, table *Table, b []byte) {
	t.Helper()
	if got, e := table.Open(b); e != api.ErrCorrupt || len(got) != 0 {
		t.Errorf("%s: Open of %d bytes answers %d bytes and %d, want none and ErrCorrupt", what, len(b), len(got), e)
	}
}

func wantOpen(t *testing.T, what string, table *Table, seal, want []byte) {
	t.Helper()
	if got, e := table.Open(seal); e != api.OK || !bytes.Equal(got, want) {
		t.Errorf("%s: Open answers %d bytes and %d, want %d bytes and OK", what, len(got), e, len(want))
	}
}

// P2.1

func TestNewEntries(t *testing.T) {
	table := New()
	for i := range 256 {
		r := uint32(i)
		for range 8 {
			if r%2 == 1 {
				r = r/2 ^ 0xEDB88320
			} else {
				r = r / 2
			}
		}
		if table[i] != r {
			t.Errorf("entry %d is %08X, want %08X", i, table[i], r)
		}
	}
	for i, want := range map[int]uint32{0: 0, 1: 0x77073096, 2: 0xEE0E612C, 128: 0xEDB88320, 255: 0x2D02EF8D} {
		if table[i] != want {
			t.Errorf("entry %d is %08X, want %08X", i, table[i], want)
		}
	}
}

func TestNewTablesAreApart(t *testing.T) {
	first, second := New(), New()
	if first != second {
		t.Error("two tables differ")
	}
	clear(first[:])
	if second != New() || second == first {
		t.Error("a change of one table is seen in another")
	}
}

func TestSumExamples(t *testing.T) {
	table := New()
	for s, want := range map[string]uint32{
		"":                 0,
		"123456789":        0xCBF43926,
		"a":                0xE8B7BE43,
		"abc":              0x352441C2,
		"\x00":             0xD202EF8D,
		"\xff":             0xFF000000,
		"\x00\x00\x00\x00": 0x2144DF1C,
		"\xff\xff\xff\xff": 0xFFFFFFFF,
	} {
		if got := table.Sum([]byte(s)); got != want {
			t.Errorf("Sum of %q is %08X, want %08X", s, got, want)
		}
	}
}

func TestSumFollowsTheRule(t *testing.T) {
	table := New()
	for c := range 256 {
		b := []byte{byte(c)}
		if got, want := table.Sum(b), slowSum(b); got != want {
			t.Errorf("Sum of the byte %d is %08X, want %08X", c, got, want)
		}
	}
	for _, b := range bodies() {
		got := table.Sum(b)
		if want := slowSum(b); got != want {
			t.Errorf("Sum of %d bytes is %08X, bit by bit %08X", len(b), got, want)
		}
		if want := crc32.ChecksumIEEE(b); got != want {
			t.Errorf("Sum of %d bytes is %08X, the library's %08X", len(b), got, want)
		}
	}
}

// The order of the bytes counts, and where they stand.
func TestSumTellsBytesApart(t *testing.T) {
	table := New()
	seen := map[uint32]string{}
	for _, s := range []string{"", "\x00", "\x00\x00", "\x00\x00\x00", "ab", "ba", "a\x00b", "ab\x00", "\x00ab"} {
		sum := table.Sum([]byte(s))
		if other, ok := seen[sum]; ok {
			t.Errorf("%q and %q have the sum %08X", s, other, sum)
		}
		seen[sum] = s
	}
}

// Sum goes by the entries of its own table, whatever they are.
func TestSumOfAnotherTable(t *testing.T) {
	var zero Table
	for s, want := range map[string]uint32{"": 0, "a": 0xFF000000, "ab": 0xFFFF0000, "abcd": 0xFFFFFFFF, "abcde": 0xFFFFFFFF} {
		if got := zero.Sum([]byte(s)); got != want {
			t.Errorf("Sum of %q by a table of zeros is %08X, want %08X", s, got, want)
		}
	}
	other := New()
	other['a'^255] ^= 0x80000001
	if got := other.Sum([]byte("a")); got != 0xE8B7BE43^0x80000001 {
		t.Errorf("Sum by a table with another entry is %08X", got)
	}
	b := []byte("bytes")
	wantOpen(t, "a table of zeros", &zero, zero.Seal(b), b)
	table := New()
	wantNoSeal(t, "sealed by a table of zeros", &table, zero.Seal(b))
}

// P2.2

func TestSealExamples(t *testing.T) {
	table := New()
	for s, want := range map[string]string{
		"":          "\x00\x00\x00\x00",
		"123456789": "123456789\x26\x39\xF4\xCB",
		"a":         "a\x43\xBE\xB7\xE8",
		"\xff":      "\xff\x00\x00\x00\xff",
	} {
		if got := table.Seal([]byte(s)); string(got) != want {
			t.Errorf("Seal of %q is %x, want %x", s, got, want)
		}
		wantOpen(t, "example", &table, []byte(want), []byte(s))
	}
}

func TestSealAndBack(t *testing.T) {
	table := New()
	for _, b := range bodies() {
		seal := table.Seal(b)
		n, sum := len(b), slowSum(b)
		want := append(bytes.Clone(b), byte(sum), byte(sum>>8), byte(sum>>16), byte(sum>>24))
		if !bytes.Equal(seal, want) {
			t.Errorf("Seal of %d bytes ends with %x, want %x", n, seal[min(n, len(seal)):], want[n:])
		}
		wantOpen(t, "forth and back", &table, seal, b)
	}
}

func TestSealOfASeal(t *testing.T) {
	table := New()
	b := []byte("inside")
	once := table.Seal(b)
	twice := table.Seal(once)
	wantOpen(t, "outer seal", &table, twice, once)
	wantOpen(t, "inner seal", &table, once, b)
}

func TestOpenTooShort(t *testing.T) {
	table := New()
	wantNoSeal(t, "nil", &table, nil)
	for n := range 4 {
		wantNoSeal(t, "zeros", &table, make([]byte, n))
		wantNoSeal(t, "255s", &table, bytes.Repeat([]byte{255}, n))
		wantNoSeal(t, "cut from a longer row", &table, table.Seal([]byte("abc"))[:n])
	}
}

// Of all rows of four bytes the zeros alone are a seal, that of no bytes.
func TestOpenOfFourBytes(t *testing.T) {
	table := New()
	wantOpen(t, "four zeros", &table, make([]byte, 4), nil)
	for i := range 4 {
		for c := 1; c < 256; c++ {
			b := make([]byte, 4)
			b[i] = byte(c)
			wantNoSeal(t, "four bytes", &table, b)
		}
	}
}

func TestOpenOfNoSeal(t *testing.T) {
	table := New()
	for _, b := range [][]byte{{0}, []byte("123456789"), noise(40, 3), noise(1000, 4)} {
		seal, n, sum := table.Seal(b), len(b), slowSum(b)
		wantNoSeal(t, "one byte missing", &table, seal[:n+3])
		wantNoSeal(t, "first byte missing", &table, seal[1:])
		wantNoSeal(t, "one byte more", &table, append(bytes.Clone(seal), 0))
		wantNoSeal(t, "most significant byte first", &table, append(bytes.Clone(b), byte(sum>>24), byte(sum>>16), byte(sum>>8), byte(sum)))
		wantNoSeal(t, "sum ahead", &table, append(bytes.Clone(seal[n:]), b...))
		not := bytes.Clone(seal)
		for i := n; i < n+4; i++ {
			not[i] = ^not[i]
		}
		wantNoSeal(t, "sum not inverted", &table, not)
	}
}

// For each body there is one sum: any other four bytes behind it make no seal.
func TestOpenOfOtherSums(t *testing.T) {
	table := New()
	b := []byte("body")
	right := table.Seal(b)
	for i := range 4 {
		for c := range 256 {
			seal := bytes.Clone(right)
			seal[len(b)+i] = byte(c)
			if bytes.Equal(seal, right) {
				wantOpen(t, "the sum", &table, seal, b)
				continue
			}
			wantNoSeal(t, "another sum", &table, seal)
		}
	}
}

// P2.3

// turned is seal with the bits of mask inverted in the four bytes from at on.
func turned(seal []byte, at int, mask uint32) []byte {
	out := bytes.Clone(seal)
	for i := range 4 {
		out[at+i] ^= byte(mask >> (8 * i))
	}
	return out
}

func masks() []uint32 {
	l := []uint32{0xFFFFFFFF, 0x80000001, 0xEDB88320, 0x04C11DB7, 0xDB710641, 0x55555555, 0xAAAAAAAA, 0xFF0000FF, 0x00FFFF00}
	for i := range 32 {
		l = append(l, 1<<i, ^uint32(1<<i), 3<<i, ^uint32(0)<<i, ^uint32(0)>>i)
	}
	x := uint64(5)
	for range 64 {
		x = x*6364136223846793005 + 1442695040888963407
		l = append(l, uint32(x>>32)|1)
	}
	return l
}

// The four bytes lie in the body, across its end, or in the sum.
func TestTurnedBitsAreFound(t *testing.T) {
	table := New()
	for n := range 41 {
		for _, b := range [][]byte{make([]byte, n), noise(n, 11)} {
			seal := table.Seal(b)
			for at := range n + 1 {
				for _, m := range masks() {
					wantNoSeal(t, "turned", &table, turned(seal, at, m))
				}
			}
		}
	}
}

func TestTurnedBitsInManyBytes(t *testing.T) {
	table := New()
	n := 1 << 14
	seal := table.Seal(noise(n, 12))
	for _, at := range []int{0, 1, 5000, n - 4, n - 3, n - 2, n - 1, n} {
		for _, m := range masks()[:40] {
			wantNoSeal(t, "turned in many bytes", &table, turned(seal, at, m))
		}
	}
}

func TestAnyByteTurned(t *testing.T) {
	table := New()
	seal := table.Seal([]byte("123456789"))
	for i := range seal {
		for c := 1; c < 256; c++ {
			b := bytes.Clone(seal)
			b[i] ^= byte(c)
			wantNoSeal(t, "one byte", &table, b)
		}
	}
}

// miss is by how much the sum of b's body differs from the sum that b has behind it: 0 for a seal alone.
func miss(table *Table, b []byte) uint32 {
	n := len(b) - 4
	has := uint32(b[n]) | uint32(b[n+1])<<8 | uint32(b[n+2])<<16 | uint32(b[n+3])<<24
	return table.Sum(b[:n]) ^ has
}

// rank counts how many of the rows are independent under XOR.
func rank(rows []uint32) int {
	var lead [32]uint32
	n := 0
	for _, r := range rows {
		for r != 0 {
			top := bits.Len32(r) - 1
			if lead[top] == 0 {
				lead[top] = r
				n++
				break
			}
			r ^= lead[top]
		}
	}
	return n
}

// What several turned bits do to the sum is the XOR of what each does alone. So if the 32 bits of a window are
// independent, none of its 2^32 - 1 masks leaves a seal: that is P2.3 for masks too many to be tried one by one.
func TestBitsOfAWindowAreIndependent(t *testing.T) {
	table := New()
	for n := range 65 {
		seal := table.Seal(noise(n, 13))
		for at := range n + 1 {
			var rows []uint32
			for i := range 32 {
				rows = append(rows, miss(&table, turned(seal, at, 1<<i)))
			}
			if got := rank(rows); got != 32 {
				t.Errorf("%d bytes, from byte %d on: rank %d, want 32", n, at, got)
			}
			for _, m := range masks() {
				want := uint32(0)
				for i := range 32 {
					if m>>i&1 == 1 {
						want ^= rows[i]
					}
				}
				if got := miss(&table, turned(seal, at, m)); got != want {
					t.Errorf("%d bytes, from byte %d on, mask %08X: %08X, want the XOR of its bits, %08X", n, at, m, got, want)
				}
			}
		}
	}
}

// R7

// spare is b within a greater array of 7s, so that its spare capacity can be looked at.
func spare(b []byte) (whole, part []byte) {
	whole = bytes.Repeat([]byte{7}, len(b)+64)
	copy(whole, b)
	return whole, whole[:len(b)]
}

func TestArgumentsStayAsTheyWere(t *testing.T) {
	table := New()
	calls := map[string]func(b []byte){
		"Sum":  func(b []byte) { table.Sum(b) },
		"Seal": func(b []byte) { clear(table.Seal(b)) },
		"Open": func(b []byte) {
			got, _ := table.Open(b)
			clear(got[:cap(got)])
		},
	}
	for what, call := range calls {
		for _, b := range bodies() {
			for _, arg := range [][]byte{b, table.Seal(b)} {
				whole, part := spare(arg)
				was := bytes.Clone(whole)
				call(part)
				if !bytes.Equal(whole, was) {
					t.Errorf("%s changed its argument of %d bytes or what lies behind it", what, len(arg))
				}
			}
		}
	}
	if table != New() {
		t.Error("the table was changed")
	}
}

func TestResultsAreTheCallers(t *testing.T) {
	table := New()
	for _, b := range bodies() {
		_, part := spare(b)
		seal := table.Seal(part)
		kept := bytes.Clone(seal)
		clear(part[:cap(part)])
		clear(table.Seal(b))
		if !bytes.Equal(seal, kept) {
			t.Errorf("Seal of %d bytes answered with memory that is not its own", len(b))
		}
		_, part = spare(kept)
		got, _ := table.Open(part)
		again, _ := table.Open(part)
		clear(part[:cap(part)])
		clear(again[:cap(again)])
		if !bytes.Equal(got, b) {
			t.Errorf("Open of the seal of %d bytes answered with memory that is not its own", len(b))
		}
	}
}

// R6: what was summed, sealed or refused earlier is not seen in a later answer.
func TestCallsAreApart(t *testing.T) {
	table := New()
	for range 3 {
		if got := table.Sum([]byte("123456789")); got != 0xCBF43926 {
			t.Errorf("Sum after other calls is %08X", got)
		}
		table.Seal(noise(99, 1))
		wantNoSeal(t, "between", &table, []byte("abcdefgh"))
	}
}

// Whatever bytes are opened, they are either the seal of the answer or refused.
func FuzzOpen(f *testing.F) {
	table := New()
	for _, b := range [][]byte{nil, {0}, make([]byte, 4), []byte("123456789"), table.Seal([]byte("123456789")), noise(50, 2)} {
		f.Add(b)
	}
	f.Fuzz(func(t *testing.T, b []byte) {
		wantOpen(t, "fuzz", &table, table.Seal(b), b)
		got, e := table.Open(b)
		if e == api.OK && !bytes.Equal(table.Seal(got), b) {
			t.Fatalf("%x was opened as %x", b, got)
		}
		if e != api.OK && (e != api.ErrCorrupt || len(got) != 0 || len(b) >= 4 && miss(&table, b) == 0) {
			t.Fatalf("%x was refused with %d", b, e)
		}
	})
}
