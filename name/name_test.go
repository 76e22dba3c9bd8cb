package name

import (
	"strings"
	"testing"
	"unicode/utf8"
)

// letters has all letters of a name, one by one as the chapter names them; é, ø, ß and λ by number, so that no editor can exchange them.
const letters = "abcdefghijklmnopqrstuvwxyz0123456789-_\u00e9\u00f8\u00df\u03bb"

const notFirst = "0123456789-"

// replaced has each rune that Fold replaces by another one.
func replaced() map[rune]string {
	m := map[rune]string{0xC9: "\u00e9", 0xD8: "\u00f8", 0x39B: "\u03bb", ' ': "-", '.': "-", '/': "-"}
	for i, r := range "ABCDEFGHIJKLMNOPQRSTUVWXYZ" {
		m[r] = letters[i : i+1]
	}
	return m
}

// near has runes that look like letters or like what is replaced, or that change into one by other rules of case.
func near() []rune {
	return []rune{
		0, '\t', '\n', '\r', 0x7F, 0x85, 0xA0, 0x2003, 0x3000, 0x200B, 0xFEFF, // blanks of other kinds
		'!', ',', ':', ';', '@', '[', '\\', ']', '^', '`', '{', '|', '}', '~', '+', '*', '\'', '"',
		0xC0, 0xC4, 0xE4, 0xD6, 0xF6, 0xDC, 0xFC, 0xC8, 0xE8, 0xCA, 0xEA, 0xC5, 0xE5, 0xC6, 0xE6, // Ä and others with marks
		0x301, 0x2010, 0x2013, 0x2212, 0xAD, // a mark alone, other hyphens
		0x1E9E, 0x212A, 0x17F, 0x130, 0x131, 0x1D77A, 0x39A, 0x3BA, // great ß, Kelvin's K, long s, i with and without dot, other lambdas
		0x430, 0x3B1, 0xFF41, 0xFF21, 0xFF11, 0x661, 0xB2, 0x1D7D8, // letters and digits of other scripts and widths
		0xFFFD, 0xFFFE, 0xFFFF, 0x10000, 0x1F600, 0x10FFFF,
	}
}

// broken has rows of bytes none of which belongs to valid UTF-8, whatever letters stand beside them.
func broken() []string {
	l := []string{
		"\xc3", "\xce", "\xe2\x82", "\xe2", "\xf0\x9f\x98", "\xf0\x9f", "\xf4", // cut short
		"\xa9", "\xb8", "\x9f", "\xbb", "\x80\x80", // what stands behind a first byte, alone
		"\xc1\xa1", "\xc0\xad", "\xe0\x81\xa1", "\xe0\x83\xa9", "\xf0\x80\x81\xa1", // a, - and é with too many bytes
		"\xed\xa0\x80", "\xed\xbf\xbf", // halves of a pair
		"\xf4\x90\x80\x80", "\xf8\x88\x80\x80\x80", "\xff\xfe", // beyond the last rune
	}
	for c := 0x80; c <= 0xFF; c++ {
		l = append(l, string([]byte{byte(c)}))
	}
	return l
}

// texts has texts of all kinds, for what must hold of any text.
func texts() []string {
	l := []string{"", "a", "kunde-7", "Ørsted A.B", "7", "-", "_", "Ä", ":", "a:b", letters, strings.ToUpper(letters), "\xc3!\xa9", "\xc3 \xa9",
		strings.Repeat("a", 24), strings.Repeat("a", 25), strings.Repeat("É", 12), strings.Repeat("É", 13), "a" + strings.Repeat("λ", 12)}
	for _, r := range near() {
		l = append(l, string(r), "a"+string(r), string(r)+"a", "A"+string(r)+"Z")
	}
	for _, b := range broken() {
		l = append(l, b, "a"+b, b+"a", "É"+b+"É")
	}
	return l
}

// mayByRule says again what a name is, condition by condition.
func mayByRule(s string) bool {
	if len(s) < 1 || len(s) > 24 || !utf8.ValidString(s) {
		return false
	}
	for _, r := range s {
		if !strings.ContainsRune(letters, r) {
			return false
		}
	}
	return strings.IndexByte(notFirst, s[0]) < 0
}

// foldByRule takes one rune after the other off the front of s.
func foldByRule(s string) string {
	out, other := "", replaced()
	for len(s) > 0 {
		r, n := utf8.DecodeRuneInString(s)
		if strings.ContainsRune(letters, r) {
			out += s[:n]
		} else {
			out += other[r]
		}
		s = s[n:]
	}
	return out
}

func wantMay(t *testing.T, s string, want bool) {
	t.Helper()
	if got := May(s); got != want {
		t.Errorf("May(%q) is %v, want %v", s, got, want)
	}
}

func wantFold(t *testing.T, s, want string) {
	t.Helper()
	if got := Fold(s); got != want {
		t.Errorf("Fold(%q) is %q, want %q", s, got, want)
	}
}

// wantTag wants s to be the tag of key and val, in all three calls.
func wantTag(t *testing.T, s, key, val string) {
	t.Helper()
	if got := Tag(key, val); got != s {
		t.Errorf("Tag(%q, %q) is %q, want %q", key, val, got, s)
	}
	if k, v, ok := Parts(s); k != key || v != val || !ok {
		t.Errorf("Parts(%q) is %q, %q, %v, want %q, %q, true", s, k, v, ok, key, val)
	}
	if !MayTag(s) {
		t.Errorf("MayTag(%q) is false", s)
	}
}

func wantNoTag(t *testing.T, s string) {
	t.Helper()
	if k, v, ok := Parts(s); k != "" || v != "" || ok {
		t.Errorf("Parts(%q) is %q, %q, %v, want two empty strings and false", s, k, v, ok)
	}
	if MayTag(s) {
		t.Errorf("MayTag(%q) is true", s)
	}
}

// wantNoTagOf wants key and val to have no tag, nor the text that they would make.
func wantNoTagOf(t *testing.T, key, val string) {
	t.Helper()
	if got := Tag(key, val); got != "" {
		t.Errorf("Tag(%q, %q) is %q, want an empty string", key, val, got)
	}
	wantNoTag(t, key+":"+val)
}

// P3.1: May

func TestMayExamples(t *testing.T) {
	wantMay(t, "kunde-7", true)
	wantMay(t, "7", false)
	wantMay(t, "Ä", false)
}

func TestMayLength(t *testing.T) {
	wantMay(t, "", false)
	for n := 1; n <= 60; n++ {
		wantMay(t, strings.Repeat("a", n), n <= 24)
	}
	wantMay(t, strings.Repeat("a", 1<<20), false)
}

// The length is one of bytes, not of runes: é has two.
func TestMayLengthOfLongLetters(t *testing.T) {
	for _, l := range []string{"\u00e9", "\u00f8", "\u00df", "\u03bb"} {
		wantMay(t, strings.Repeat(l, 11)+"ab", true)
		wantMay(t, strings.Repeat(l, 12), true)
		wantMay(t, "a"+strings.Repeat(l, 11)+"b", true)
		wantMay(t, strings.Repeat(l, 12)+"a", false)
		wantMay(t, "a"+strings.Repeat(l, 12), false)
		wantMay(t, strings.Repeat("a", 23)+l, false)
		wantMay(t, strings.Repeat(l, 13), false)
		wantMay(t, strings.Repeat(l, 24), false)
	}
}

func TestMayEachLetter(t *testing.T) {
	for _, r := range letters {
		l := string(r)
		first := !strings.Contains(notFirst, l)
		wantMay(t, l, first)
		wantMay(t, l+"a", first)
		wantMay(t, l+l, first)
		for _, before := range []string{"a", "_", "\u00e9", "\u00f8", "\u00df", "\u03bb"} {
			wantMay(t, before+l, true)
			wantMay(t, before+l+l, true)
			wantMay(t, before+l+"z", true)
		}
	}
}

func TestMayDigitsAndHyphens(t *testing.T) {
	for s, want := range map[string]bool{
		"a0": true, "a9": true, "a-": true, "a--": true, "_7": true, "_-": true, "_": true, "__": true, "a-0-9": true, "é7": true, "λ-": true,
		"0a": false, "9a": false, "-a": false, "-": false, "--": false, "0": false, "07": false, "-7": false, "7-": false, "-_": false, "7é": false,
	} {
		wantMay(t, s, want)
	}
}

func TestMayRunesThatAreNoLetter(t *testing.T) {
	for _, r := range near() {
		for _, s := range []string{string(r), "a" + string(r), string(r) + "a", "a" + string(r) + "a"} {
			wantMay(t, s, false)
		}
	}
	for _, s := range []string{"Kunde", "kUnde", "kundE", "Z", "kunde 7", "a.b", "a/b", "a:b", "e\u0301", "ß\u1e9e", "Ø", "É", "Λ", " a", "a ", "a\n", "a\x00"} {
		wantMay(t, s, false)
	}
}

func TestMayAnyRune(t *testing.T) {
	for r := range rune(utf8.MaxRune + 1) {
		if !utf8.ValidRune(r) {
			continue
		}
		s := string(r)
		letter := strings.Contains(letters, s)
		wantMay(t, s, letter && !strings.Contains(notFirst, s))
		wantMay(t, "a"+s, letter)
	}
}

func TestMayBytesThatAreNoText(t *testing.T) {
	for _, b := range broken() {
		for _, s := range []string{b, "a" + b, b + "a", "a" + b + "a", "\u00e9" + b, b + "\u00e9", strings.Repeat("a", 24-len(b)) + b} {
			if utf8.ValidString(s) {
				t.Fatalf("%q is valid UTF-8", s)
			}
			wantMay(t, s, false)
		}
	}
	wantMay(t, "a\xc3\xa9", true)
}

// Every text of two bytes, beside a letter on each side.
func TestMayAnyTwoBytes(t *testing.T) {
	for c := range 1 << 16 {
		s := string([]byte{byte(c >> 8), byte(c)})
		for _, s := range []string{s, "a" + s, s + "a"} {
			wantMay(t, s, mayByRule(s))
		}
	}
}

// P3.1: Fold

func TestFoldExamples(t *testing.T) {
	wantFold(t, "Ørsted A.B", "ørsted-a-b")
	for s, want := range map[string]string{
		"":                         "",
		"kunde-7":                  "kunde-7",
		"Kunde Nr. 7":              "kunde-nr--7",
		"a/b.c d":                  "a-b-c-d",
		" . /":                     "----",
		"ÉTÉ":                      "été",
		"STRASSE Straße":           "strasse-straße",
		"ΛΑΜΒΔΑ":                   "λ",
		"A_B-C":                    "a_b-c",
		"7UP":                      "7up",
		"a:b":                      "ab",
		"Ä!?":                      "",
		"E\u0301":                  "e",
		"\u1e9e\u212a":             "",
		strings.Repeat("Aé ", 100): strings.Repeat("aé-", 100),
	} {
		wantFold(t, s, want)
	}
}

func TestFoldKeepsLetters(t *testing.T) {
	wantFold(t, letters, letters)
	for _, r := range letters {
		wantFold(t, string(r), string(r))
		wantFold(t, "a"+string(r)+"a", "a"+string(r)+"a")
	}
}

func TestFoldReplaces(t *testing.T) {
	all := replaced()
	if len(all) != 32 {
		t.Fatalf("%d runes are replaced, want 32", len(all))
	}
	for r, want := range all {
		wantFold(t, string(r), want)
		wantFold(t, "x"+string(r)+"y", "x"+want+"y")
		wantFold(t, string(r)+string(r), want+want)
	}
}

func TestFoldRemoves(t *testing.T) {
	for _, r := range near() {
		s := string(r)
		wantFold(t, s, "")
		wantFold(t, s+"a", "a")
		wantFold(t, "a"+s, "a")
		wantFold(t, "A"+s+"É"+s+s+"/", "aé-")
	}
}

func TestFoldAnyRune(t *testing.T) {
	other := replaced()
	for r := range rune(utf8.MaxRune + 1) {
		if !utf8.ValidRune(r) {
			continue
		}
		s := string(r)
		want := other[r]
		if strings.Contains(letters, s) {
			want = s
		}
		wantFold(t, s, want)
	}
}

func TestFoldBytesThatAreNoText(t *testing.T) {
	for _, b := range broken() {
		wantFold(t, b, "")
		wantFold(t, "a"+b+"b", "ab")
		wantFold(t, "A"+b+"B"+b, "ab")
		wantFold(t, b+"É"+b+"Λ", "éλ")
	}
	wantFold(t, "a\xc3b\xa9c", "abc")
	wantFold(t, "\xc3\xc3\xa9", "é")
	wantFold(t, "\xc3\x89\x89", "é")
}

// What remains is not joined: two halves of é with a removed rune between them make no é.
func TestFoldJoinsNoBytes(t *testing.T) {
	wantFold(t, "\xc3!\xa9", "")
	wantFold(t, "\xce\xff\xbb", "")
	wantFold(t, "\xc3 \xa9", "-")
}

func TestFoldAnyTwoBytes(t *testing.T) {
	for c := range 1 << 16 {
		s := string([]byte{byte(c >> 8), byte(c)})
		for _, s := range []string{s, "A" + s, s + "."} {
			wantFold(t, s, foldByRule(s))
		}
	}
}

// A folded text has letters alone, but that makes no name of it: it may be empty, too long, or begin with a digit or '-'.
func TestFoldedTextIsNotAlwaysAName(t *testing.T) {
	for _, s := range []string{"", "Ä", "7A", " A", ".A", strings.Repeat("A", 25)} {
		wantMay(t, Fold(s), false)
	}
	for _, s := range texts() {
		if f := Fold(s); len(f) <= 22 {
			wantMay(t, "a"+f, true)
		}
	}
}

// P3.2

func TestTagExamples(t *testing.T) {
	wantNoTagOf(t, "kunde", "7")
	wantTag(t, "kunde:x7", "kunde", "x7")
}

func TestTagOfNames(t *testing.T) {
	long := strings.Repeat("a", 24)
	names := []string{"a", "_", "é", "ø", "ß", "λ", "kunde-7", "x-", "_7", long, strings.Repeat("λ", 12), "ab"}
	for _, key := range names {
		for _, val := range names {
			wantTag(t, key+":"+val, key, val)
		}
	}
}

// One that is none is enough, as the key or as the value; two are not better.
func TestTagOfTextsThatAreNoNames(t *testing.T) {
	for _, s := range []string{"", "7", "-", "-a", "7a", "A", "Ä", "É", "a b", "a.b", "a/b", " ", "a\x00", strings.Repeat("a", 25), strings.Repeat("λ", 13), "\xc3", "a\xff", "\xa9"} {
		wantNoTagOf(t, s, "a")
		wantNoTagOf(t, "a", s)
		wantNoTagOf(t, s, s)
	}
	wantNoTagOf(t, "a", strings.Repeat("a", 1<<16))
}

// Where a name has a ':', the text that would be made has more than one.
func TestTagOfTextsWithColons(t *testing.T) {
	for _, s := range []string{":", "a:b", "a:", ":a", "a:b:c", "::"} {
		wantNoTagOf(t, s, "a")
		wantNoTagOf(t, "a", s)
		wantNoTagOf(t, s, s)
	}
}

func TestPartsOfTextsThatAreNoTags(t *testing.T) {
	for _, s := range []string{
		"", "a", "kunde", "kunde-x7", strings.Repeat("a", 49), // no ':'
		"::", "a::b", "a:b:c", "a:b:", ":a:b", "::a", "a::", "a:b:c:d", strings.Repeat("a:", 30), strings.Repeat(":", 60), // more than one
		":", ":a", "a:", // nothing on a side
		"a;b", "a\uff1ab", "a\u02d0b", "a\uff1a", "a\xbab", "a=b", "a b", // others in its place
		"a :b", "a: b", " a:b", "a:b ", "a:b\n", "a:b\x00", "A:b", "a:B", "a:7", "7:a", "-a:b", "a:-b", "Ä:b",
		"a:\xc3", "\xc3:\xa9", "a\xc3:\xa9b", "a\xff:b", "a:b\xff", "\xff",
		strings.Repeat("a", 25) + ":b", "b:" + strings.Repeat("a", 25), strings.Repeat("a", 1<<16),
	} {
		wantNoTag(t, s)
	}
	wantTag(t, "a:b-", "a", "b-")
}

// The longest tag has 49 bytes.
func TestPartsLength(t *testing.T) {
	for n := range 50 {
		for m := range 50 {
			key, val := strings.Repeat("a", n), strings.Repeat("b", m)
			if 1 <= n && n <= 24 && 1 <= m && m <= 24 {
				wantTag(t, key+":"+val, key, val)
			} else {
				wantNoTagOf(t, key, val)
			}
		}
	}
}

// Every text of up to six pieces, of a few: a letter, a digit, ':', and bytes that make a letter only if they stand together.
func TestPartsOfAnyPieces(t *testing.T) {
	row := []string{""}
	for range 6 {
		var longer []string
		for _, s := range row {
			for _, p := range []string{"a", "7", ":", "\xc3", "\xa9", "A"} {
				longer = append(longer, s+p)
			}
		}
		row = longer
		for _, s := range row {
			side := strings.Split(s, ":")
			if len(side) == 2 && mayByRule(side[0]) && mayByRule(side[1]) {
				wantTag(t, s, side[0], side[1])
			} else {
				wantNoTag(t, s)
			}
		}
	}
}

// P3.3

func TestFoldTwice(t *testing.T) {
	for _, s := range texts() {
		once := Fold(s)
		wantFold(t, once, once)
	}
	for r := range rune(utf8.MaxRune + 1) {
		once := Fold("a" + string(r) + "b")
		wantFold(t, once, once)
	}
	for c := range 1 << 16 {
		once := Fold(string([]byte{byte(c >> 8), byte(c)}))
		wantFold(t, once, once)
	}
}

func TestPartsOfTag(t *testing.T) {
	var all []string
	for _, s := range texts() {
		all = append(all, s, Fold(s), "x"+Fold(s))
	}
	for _, key := range all {
		for _, val := range []string{"a", "kunde-7", "é", "7", "", strings.Repeat("a", 24), strings.Repeat("a", 25), key} {
			tag := Tag(key, val)
			if mayByRule(key) && mayByRule(val) {
				wantTag(t, tag, key, val)
				continue
			}
			if tag != "" {
				t.Errorf("Tag(%q, %q) is %q, want an empty string", key, val, tag)
			}
			wantNoTag(t, tag)
		}
	}
}

// R6: an answer does not hang on what was asked earlier.
func TestCallsAreApart(t *testing.T) {
	for range 3 {
		wantMay(t, "kunde-7", true)
		wantMay(t, "a\xff", false)
		wantFold(t, "Ørsted A.B", "ørsted-a-b")
		wantFold(t, "\xc3", "")
		wantFold(t, "\xa9", "")
		wantTag(t, "kunde:x7", "kunde", "x7")
		wantNoTag(t, "kunde")
	}
}

func FuzzName(f *testing.F) {
	for _, s := range texts() {
		f.Add(s, "a")
	}
	f.Add("kunde", "x7")
	f.Fuzz(func(t *testing.T, key, val string) {
		for _, s := range []string{key, val, key + val} {
			wantMay(t, s, mayByRule(s))
			once := foldByRule(s)
			wantFold(t, s, once)
			wantFold(t, once, once)
		}
		if mayByRule(key) && mayByRule(val) {
			wantTag(t, key+":"+val, key, val)
		} else {
			wantNoTagOf(t, key, val)
		}
	})
}
