package label_test

import (
	"math/rand/v2"
	"slices"
	"strings"
	"testing"
	"unicode/utf8"

	"airshare/api"
	"airshare/label"
)

const (
	small    = "abcdefghijklmnopqrstuvwxyz"
	digits   = "0123456789"
	capital  = "ABCDEFGHIJKLMNOPQRSTUVWXYZ"
	capitals = capital + "ÀÁÂÃÄÅÆÇÈÉÊËÌÍÎÏÐÑÒÓÔÕÖØÙÚÛÜÝÞ" + "ΑΒΓΔΕΖΗΘΙΚΛΜΝΞΟΠΡΣΤΥΦΧΨΩ"
	smalls   = small + "àáâãäåæçèéêëìíîïðñòóôõöøùúûüýþ" + "αβγδεζηθικλμνξοπρστυφχψω"
)

// notUTF8 are strings none of which is valid UTF-8.
var notUTF8 = []string{
	"\x80", "\xbf", "\xc3", "\xff", "\xfe", "\xc0\x80", "\xc1\xbf", "\xc1\xa1", "\xe2\x82", "\xe0\x80\xaf", "\xe0\x81\xa1", "\xf0\x9f\x98", "\xf0\x80\x81\xa1",
	"\xed\xa0\x80", "\xed\xb0\x80", "\xed\xbf\xbf", "\xf4\x90\x80\x80", "\xf5\x80\x80\x80", "\xf8\x88\x80\x80\x80", "\xa4\xc3", "\xc3\xc3\xa4", "\xc3\xa4\xa4", "\xc3\x28",
}

// names are names, of which many are equal when they are folded.
var names = []string{
	"a", "A", "aa", "aA", "ab", "AB", "b", "B", "Ba", "z", "Z", "za", "-", "_", ".", "..", "-a", "_a", ".a", "0", "9", "09", "9a", "Alpha", "alpha", "ALPHA", "alpha-1", "Alpha_1", "alpha.1",
	"ä", "Ä", "äb-1", "ÄB-1", "à", "À", "þ", "Þ", "×", "÷", "ß", "ÿ", "Ÿ", "ö", "Ö", "Ø", "ø", "\u00a1", "¿", "\u00ad", "À×Þ", "à×þ", "à÷þ",
	"α", "Α", "ω", "Ω", "ΑΩ", "αω", "Αω", "σ", "Σ", "ς", "\u03a2", "ΐ", "Ϊ", "ϊ", "ΰ", "\u2126", "\u212a", "k", "K", "ſ", "s", "S", "İ", "ı", "i", "I", "ā", "Ā", "Б", "б",
	"€", "日本", "日", "本", "\u2028", "\ud7ff", "\ue000", "\ufb01", "\ufeff", "\uff21", "\ufffc", "\ufffe", "\uffff", "\U00010000", "😀", "😀a", "a😀", "\U0010ffff",
	strings.Repeat("x", 24), strings.Repeat("X", 24), strings.Repeat("x", 23), strings.Repeat("x", 23) + "y", strings.Repeat("ä", 12), strings.Repeat("Ä", 12), strings.Repeat("日", 8), strings.Repeat("😀", 6),
}

// notNames are valid UTF-8 and not names.
var notNames = []string{
	"", " ", "a b", " a", "a ", "*", "a*", "*a", "**", "a/b", "a:b", "a,b", "a@b", "a[b", "a`b", "a{b", "a+b", "\x00", "a\x00", "\n", "a\n", "\t", "\x7f", "\u0080", "\u0085", "\u00a0", "a\u00a0", "\ufffd", "a\ufffd", "\ufffdä",
	strings.Repeat("x", 25), strings.Repeat("X", 25), strings.Repeat("ä", 12) + "x", strings.Repeat("ä", 13), "x" + strings.Repeat("日", 8), strings.Repeat("日", 9), "x" + strings.Repeat("😀", 6), strings.Repeat("😀", 24),
	strings.Repeat("x", 256), strings.Repeat("x", 257), strings.Repeat("x", 1<<16+1), strings.Repeat(" ", 24),
}

// permitted reports whether r may be in a name.
func permitted(r rune) bool {
	return strings.ContainsRune(small+capital+digits+"-_.", r) || r > 0xa0 && r != 0xfffd && (r < 0xd800 || r > 0xdfff) && r <= 0x10ffff
}

// lower returns what folding replaces r by, read from the two alphabets.
func lower(r rune) rune {
	small := []rune(smalls)
	for i, c := range []rune(capitals) {
		if r == c {
			return small[i]
		}
	}
	return r
}

// isName reports whether s is a name.
func isName(s string) bool {
	return len(s) >= 1 && len(s) <= 24 && utf8.ValidString(s) && !slices.ContainsFunc([]rune(s), func(r rune) bool { return !permitted(r) })
}

// isPattern reports whether s is a pattern, in the words of the definition.
func isPattern(s string) bool {
	bare := strings.ReplaceAll(s, "*", "")
	return utf8.ValidString(s) && len(s) >= 1 && len(s) <= 24 && (bare == "" || isName(bare))
}

// lowered returns the folded runes of s.
func lowered(s string) []rune {
	out := []rune(s)
	for i, r := range out {
		out[i] = lower(r)
	}
	return out
}

// fits reports whether the runes result from the pattern, by trying all sequences for each asterisk.
func fits(pattern, runes []rune) bool {
	if len(pattern) == 0 {
		return len(runes) == 0
	}
	if pattern[0] != '*' {
		return len(runes) > 0 && runes[0] == pattern[0] && fits(pattern[1:], runes[1:])
	}
	for n := range len(runes) + 1 {
		if fits(pattern[1:], runes[n:]) {
			return true
		}
	}
	return false
}

// wantMatch returns what Match must return.
func wantMatch(pattern, s string) bool {
	return isPattern(pattern) && isName(s) && fits(lowered(pattern), lowered(s))
}

// wantCompare returns what Compare must return.
func wantCompare(a, b string) int {
	switch nameA, nameB := isName(a), isName(b); {
	case nameA && nameB:
		return order(lowered(a), lowered(b))
	case nameB:
		return -1
	case nameA:
		return 1
	}
	return 0
}

// order compares lexicographically.
func order(a, b []rune) int {
	for i := 0; i < len(a) && i < len(b); i++ {
		if a[i] < b[i] {
			return -1
		}
		if a[i] > b[i] {
			return 1
		}
	}
	switch {
	case len(a) < len(b):
		return -1
	case len(a) > len(b):
		return 1
	}
	return 0
}

// words returns all strings of up to the given number of letters.
func words(letters []string, most int) []string {
	out, start := []string{""}, 0
	for range most {
		end := len(out)
		for _, word := range out[start:end] {
			for _, letter := range letters {
				out = append(out, word+letter)
			}
		}
		start = end
	}
	return out
}

// checkName checks Valid, Fold and Runes for a name.
func checkName(t *testing.T, s, wantFold string, wantRunes int) {
	t.Helper()
	if !label.Valid(s) {
		t.Fatalf("Valid(%q) = false", s)
	}
	if got, err := label.Fold(s); got != wantFold || err != api.OK {
		t.Fatalf("Fold(%q) = %q, %d, want %q", s, got, err, wantFold)
	}
	if got := label.Runes(s); got != wantRunes {
		t.Fatalf("Runes(%q) = %d, want %d", s, got, wantRunes)
	}
}

// checkNoName checks Valid, Fold and Runes for what is not a name.
func checkNoName(t *testing.T, s string) {
	t.Helper()
	if label.Valid(s) {
		t.Fatalf("Valid(%q) = true", s)
	}
	if got, err := label.Fold(s); got != "" || err != api.ErrInvalid {
		t.Fatalf("Fold(%q) = %q, %d, want an empty string, %d", s, got, err, api.ErrInvalid)
	}
	if got := label.Runes(s); got != -1 {
		t.Fatalf("Runes(%q) = %d, want -1", s, got)
	}
}

// check calls checkName or checkNoName.
func check(t *testing.T, s string) {
	t.Helper()
	if isName(s) {
		checkName(t, s, string(lowered(s)), len([]rune(s)))
	} else {
		checkNoName(t, s)
	}
}

func checkCompare(t *testing.T, a, b string, want int) {
	t.Helper()
	if got := label.Compare(a, b); got != want {
		t.Fatalf("Compare(%q, %q) = %d, want %d", a, b, got, want)
	}
}

func checkMatch(t *testing.T, pattern, s string, want bool) {
	t.Helper()
	if got := label.Match(pattern, s); got != want {
		t.Fatalf("Match(%q, %q) = %t, want %t", pattern, s, got, want)
	}
}

// TestExamples checks the chapter's examples.
func TestExamples(t *testing.T) {
	checkName(t, "ÄB-1", "äb-1", 4)
	checkCompare(t, "Alpha", "alpha", 0)
	checkMatch(t, "a*c*", "ABC", true)
	checkMatch(t, "*b", "abc", false)
	checkNoName(t, "a b")
}

// TestEachRune checks P7.1 for every rune alone, among them those at the ends of what is permitted and of what is folded.
func TestEachRune(t *testing.T) {
	for r := range rune(0x110000) {
		if r < 0xd800 || r > 0xdfff {
			check(t, string(r))
		}
	}
	for _, r := range []rune{'a', 'z', 'A', 'Z', '0', '9', '-', '_', '.', 0xa1, 0xfffc, 0xfffe, 0x10ffff} {
		if s := string(r); !label.Valid(s) {
			t.Errorf("Valid(%q) = false", s)
		}
	}
	for _, r := range []rune{0, ' ', '*', ',', '/', ':', '@', '[', '^', '`', '{', 0x7f, 0x80, 0x9f, 0xa0, 0xfffd} {
		checkNoName(t, string(r))
	}
}

// TestPlaces checks P7.1 for runes at each place of a longer name.
func TestPlaces(t *testing.T) {
	for _, letter := range []string{"a", "Z", "9", "-", "_", ".", "ä", "Ä", "Ω", "×", "\u03a2", "\u00a1", "日", "😀", " ", "*", "\x00", "\u00a0", "\ufffd", "\x80", "\xc3", "\xff", "\xed\xa0\x80"} {
		for before := range 25 {
			for after := range 25 {
				check(t, strings.Repeat("b", before)+letter+strings.Repeat("C", after))
				check(t, strings.Repeat("Ö", before)+letter+strings.Repeat("ö", after))
			}
		}
	}
}

// TestLength checks in P7.1 that names are measured in bytes, and that Runes counts runes.
func TestLength(t *testing.T) {
	for _, letter := range []string{"x", "ä", "日", "😀"} {
		for n := range 30 {
			s := strings.Repeat(letter, n)
			if n >= 1 && n*len(letter) <= api.MaxName {
				checkName(t, s, s, n)
			} else {
				checkNoName(t, s)
			}
		}
	}
	checkName(t, "aä日😀", "aä日😀", 4)
	checkName(t, "Aa"+strings.Repeat("Ä", 11), "aa"+strings.Repeat("ä", 11), 13)
	checkName(t, "日日日日日日日xyz", "日日日日日日日xyz", 10)
	checkNoName(t, "日日日日日日日xyzz")
}

// TestFold checks the folded runes in P7.1, and that no others are replaced.
func TestFold(t *testing.T) {
	for _, c := range [][2]string{
		{"AZ", "az"}, {"azAZ09-_.", "azaz09-_."}, {"ÀÖ", "àö"}, {"ØÞ", "øþ"}, {"×", "×"}, {"÷", "÷"}, {"ß", "ß"}, {"À×Þß", "à×þß"}, {"¿À", "¿à"},
		{"ΑΡ", "αρ"}, {"ΣΩ", "σω"}, {"\u03a2", "\u03a2"}, {"ς", "ς"}, {"\u0390Α", "\u0390α"}, {"Ω\u03aa", "ω\u03aa"}, {"ΆΈΏ", "ΆΈΏ"},
		{"Ÿ", "Ÿ"}, {"Āā", "Āā"}, {"İı", "İı"}, {"Ж", "Ж"}, {"\u2126", "\u2126"}, {"\u212a", "\u212a"}, {"\uff21", "\uff21"}, {"ẞ", "ẞ"}, {"\U00010400", "\U00010400"},
		{"Aä日😀Ω", "aä日😀ω"}, {"A\u0308", "a\u0308"},
	} {
		checkName(t, c[0], c[1], len([]rune(c[1])))
	}
	if len([]rune(capitals)) != 26+30+24 || len([]rune(smalls)) != 26+30+24 {
		t.Fatal("the alphabets of the test are not as long as the ranges")
	}
}

// TestListed checks P7.1 for the lists of this test, alone and joined.
func TestListed(t *testing.T) {
	for _, s := range names {
		checkName(t, s, string(lowered(s)), len([]rune(s)))
	}
	for _, s := range slices.Concat(notNames, notUTF8) {
		checkNoName(t, s)
	}
	for _, bad := range notUTF8 {
		for _, s := range names {
			checkNoName(t, s+bad)
			checkNoName(t, bad+s)
			checkNoName(t, s+bad+s)
		}
	}
}

// TestFoldTwice checks the first consequence.
func TestFoldTwice(t *testing.T) {
	for r := range rune(0x110000) {
		s := "a" + string(r) + "Z"
		once, err := label.Fold(s)
		if err != api.OK {
			continue
		}
		if twice, err := label.Fold(once); twice != once || err != api.OK {
			t.Fatalf("Fold(%q) = %q and Fold of it %q, %d", s, once, twice, err)
		}
		if label.Compare(s, once) != 0 || label.Runes(s) != label.Runes(once) {
			t.Fatalf("%q and %q differ", s, once)
		}
	}
}

// TestCompare checks P7.2 where folding, the runes or a prefix decide, and where one or both are not names.
func TestCompare(t *testing.T) {
	for _, c := range []struct {
		a, b string
		want int
	}{
		{"a", "a", 0}, {"A", "a", 0}, {"Alpha", "aLPHA", 0}, {"É", "é", 0}, {"ΩMEGA", "ωmega", 0},
		{"a", "ab", -1}, {"A", "ab", -1}, {"ab", "abc", -1}, {"b", "ab", 1}, {"aa", "b", -1}, {"Z", "aa", 1},
		{"-", ".", -1}, {".", "0", -1}, {"9", "_", -1}, {"_", "a", -1},
		// Folding decides here: Z is below _, and Z below a.
		{"_", "Z", -1}, {"Z", "a", 1}, {"a", "Z", -1}, {"×", "Þ", -1}, {"Þ", "÷", 1}, {"ΐ", "Ω", -1}, {"ς", "Σ", -1}, {"\u03a2", "Α", -1}, {"×", "÷", -1}, {"\u03a2", "ς", -1},
		{"z", "ä", -1}, {"ä", "α", -1}, {"ÿ", "Ÿ", -1}, {"ω", "日", -1}, {"\u07ff", "\u0800", -1},
		// By units of UTF-16, these would be the other way round.
		{"\uffff", "\U00010000", -1}, {"\ue000", "😀", -1},
		{"", "", 0}, {"", " ", 0}, {"*", "\xff", 0}, {"a b", "b a", 0}, {"", "a", -1}, {"~", "a", -1}, {"\U0010ffff\xff", "-", -1}, {"z z", "-", -1}, {"\xff", "-", -1},
		{strings.Repeat("x", 25), "a", -1}, {strings.Repeat("x", 25), strings.Repeat("x", 24), -1}, {strings.Repeat("x", 25), strings.Repeat("y", 25), 0},
		{strings.Repeat("x", 23), strings.Repeat("x", 24), -1}, {strings.Repeat("x", 24), strings.Repeat("X", 24), 0},
	} {
		checkCompare(t, c.a, c.b, c.want)
		checkCompare(t, c.b, c.a, -c.want)
	}
}

// TestComparePairs checks P7.2 and the second consequence for all pairs from the lists and from short words.
func TestComparePairs(t *testing.T) {
	for _, list := range [][]string{slices.Concat(names, notNames, notUTF8), words([]string{"a", "B", "_", "Ä", "÷", " "}, 3)} {
		for _, a := range list {
			for _, b := range list {
				want := wantCompare(a, b)
				checkCompare(t, a, b, want)
				foldA, errA := label.Fold(a)
				foldB, errB := label.Fold(b)
				if errA == api.OK && errB == api.OK && (want == 0) != (foldA == foldB) {
					t.Fatalf("Compare(%q, %q) is %d, the folded forms are %q and %q", a, b, want, foldA, foldB)
				}
			}
		}
	}
}

// TestOrder checks the third consequence: Compare sorts each shuffled list so that it ascends from each place on.
func TestOrder(t *testing.T) {
	source := rand.New(rand.NewPCG(31, 32))
	list := slices.Concat(names, notNames, notUTF8)
	for range 20 {
		source.Shuffle(len(list), func(i, j int) { list[i], list[j] = list[j], list[i] })
		slices.SortFunc(list, label.Compare)
		for i, a := range list {
			for _, b := range list[i:] {
				if label.Compare(a, b) > 0 || label.Compare(b, a) < 0 || label.Compare(a, b) != -label.Compare(b, a) {
					t.Fatalf("%q is sorted before %q", a, b)
				}
			}
		}
	}
}

// TestMatch checks P7.3 at the ends of names, with asterisks that stand for nothing, and with parts that occur more than once.
func TestMatch(t *testing.T) {
	for _, c := range []struct {
		pattern, s string
		want       bool
	}{
		{"a", "a", true}, {"A", "a", true}, {"a", "A", true}, {"a", "b", false}, {"a", "aa", false}, {"aa", "a", false},
		{"*", "a", true}, {"*", "ÄΩ日😀", true}, {"***", "-", true},
		{"a*", "a", true}, {"a*", "abc", true}, {"a*", "ba", false}, {"*a", "a", true}, {"*a", "cba", true}, {"*a", "ab", false}, {"*a*", "a", true}, {"*a*", "bab", true}, {"*a*", "b", false},
		{"a*a", "a", false}, {"a*a", "aa", true}, {"ab*ba", "aba", false}, {"ab*ba", "abba", true}, {"ab*bc", "abc", false}, {"a*b*c", "abc", true}, {"a*b*c", "acb", false}, {"a*b*c", "axbxbxc", true}, {"a**c", "ac", true},
		{"*ab*ab", "ab", false}, {"*ab*ab", "abab", true}, {"*ab*ab*", "aab", false}, {"*ab", "aab", true}, {"*aab*", "aaab", true}, {"a*ab*b", "aab", false}, {"a*ab*b", "aabb", true}, {"*a*b*a*", "ab", false}, {"*b*a*b", "bab", true}, {"*b*a*b", "ab", false},
		{"Ä*", "äpfel", true}, {"*Ω", "aω", true}, {"ω*", "Ωmega", true}, {"×", "÷", false}, {"×*", "×a", true}, {"*\u03a2*", "aςa", false}, {"ß", "SS", false}, {"\u212a", "k", false},
		{"*.*", "a.b", true}, {".", "a", false}, {"-*_", "--_", true}, {"?", "a", false}, {"[a]", "a", false}, {"a.c", "abc", false},
	} {
		checkMatch(t, c.pattern, c.s, c.want)
	}
}

// TestMatchInvalid checks in P7.3 that nothing matches unless the pattern is one and s is a name.
func TestMatchInvalid(t *testing.T) {
	for _, bad := range slices.Concat(notNames, notUTF8) {
		checkMatch(t, bad, bad, false)
		checkMatch(t, "*", bad, false)
		checkMatch(t, "**", bad, false)
		checkMatch(t, "a*", bad, false)
		if !isPattern(bad) {
			checkMatch(t, bad, "a", false)
		}
		if strings.Trim(bad, "a*") != "" {
			checkMatch(t, bad+"*", "a", false)
			checkMatch(t, "*"+bad, "a", false)
		}
	}
	// What stands around an asterisk must be whole runes, even where its bytes are those of s.
	for _, pattern := range []string{"\xc3*", "*\xa4", "\xc3*\xa4", "*\xa4*", "*\xc3*", "\xc3**\xa4", "ä\xc3*", "*\xa4ä"} {
		for _, s := range []string{"ä", "Ä", "ää", "Ã¤"} {
			checkMatch(t, pattern, s, false)
		}
	}
	for _, pattern := range []string{"a *", "* *", "*\u00a0", "*\ufffd*", "\x00*", "", "/*", "*\n"} {
		for _, s := range []string{"a", "-", "ä"} {
			checkMatch(t, pattern, s, false)
		}
	}
}

// TestPatternLength checks the length of patterns in P7.3, with all numbers of asterisks at both ends and in the middle.
func TestPatternLength(t *testing.T) {
	for n := range 30 {
		checkMatch(t, strings.Repeat("*", n), "a", n >= 1 && n <= 24)
		for letters := range 26 {
			name := strings.Repeat("x", letters)
			for _, pattern := range []string{name + strings.Repeat("*", n), strings.Repeat("*", n) + name, name[:letters/2] + strings.Repeat("*", n) + name[letters/2:]} {
				checkMatch(t, pattern, name, letters >= 1 && letters <= 24 && n+letters <= 24)
			}
		}
	}
	checkMatch(t, strings.Repeat("ä", 11)+"*", strings.Repeat("Ä", 12), true)
	checkMatch(t, strings.Repeat("ä", 11)+"**", strings.Repeat("Ä", 12), true)
	checkMatch(t, strings.Repeat("ä", 12)+"*", strings.Repeat("Ä", 12), false)
	checkMatch(t, strings.Repeat("*a", 12), strings.Repeat("a", 24), true)
	checkMatch(t, strings.Repeat("a*", 12), strings.Repeat("a", 24), true)
	checkMatch(t, strings.Repeat("*a", 11)+"*b", strings.Repeat("a", 24), false)
	checkMatch(t, strings.Repeat("*", 1<<16), "a", false)
}

// TestMatchAll checks P7.3 for all short patterns and names of a few letters, against a trial of all sequences.
func TestMatchAll(t *testing.T) {
	for _, c := range []struct {
		pattern, name []string
		long, longer  int
	}{
		{[]string{"a", "b", "*"}, []string{"a", "b"}, 6, 7},
		{[]string{"A", "ä", "*", "\xc3"}, []string{"a", "Ä", "\xa4"}, 4, 5},
		{[]string{"ä", "Ã", "¤", "*", " "}, []string{"Ä", "ã", "¤", "*"}, 4, 4},
	} {
		list := words(c.name, c.longer)
		for _, pattern := range words(c.pattern, c.long) {
			for _, s := range list {
				checkMatch(t, pattern, s, wantMatch(pattern, s))
			}
		}
	}
}

// TestMatchRandom checks P7.3 for longer names and for patterns that come from them by the replacement of parts with asterisks, some with another change.
func TestMatchRandom(t *testing.T) {
	source := rand.New(rand.NewPCG(33, 34))
	letters := []rune("aAbBäÄΩω日-")
	matched := 0
	for range 30000 {
		name := make([]rune, 1+source.IntN(14))
		for i := range name {
			name[i] = letters[source.IntN(len(letters))]
		}
		pattern := slices.Clone(name)
		for range source.IntN(4) {
			from := source.IntN(len(pattern) + 1)
			to := from + source.IntN(min(4, len(pattern)+1-from))
			pattern = slices.Replace(pattern, from, to, '*')
		}
		if source.IntN(3) == 0 && len(pattern) > 0 {
			pattern[source.IntN(len(pattern))] = letters[source.IntN(len(letters))]
		}
		want := wantMatch(string(pattern), string(name))
		checkMatch(t, string(pattern), string(name), want)
		if want {
			matched++
		}
	}
	if matched < 5000 || matched > 25000 {
		t.Errorf("%d patterns matched", matched)
	}
}

// TestRandomBytes checks all functions for strings of any bytes, and of bytes that often are valid UTF-8.
func TestRandomBytes(t *testing.T) {
	source := rand.New(rand.NewPCG(35, 36))
	few := []byte("aZ*\xc3\xc3\xa4\x84\xce\x91\xef\xbf\xbd")
	earlier := "a"
	for range 100000 {
		some := make([]byte, source.IntN(8))
		for i := range some {
			some[i] = byte(source.IntN(256))
			if source.IntN(8) > 0 {
				some[i] = few[source.IntN(len(few))]
			}
		}
		s := string(some)
		check(t, s)
		checkCompare(t, s, earlier, wantCompare(s, earlier))
		checkMatch(t, s, earlier, wantMatch(s, earlier))
		checkMatch(t, earlier, s, wantMatch(earlier, s))
		checkMatch(t, s+"*", s, wantMatch(s+"*", s))
		earlier = s
	}
}

// results is what all functions return for the same two strings.
type results struct {
	valid, match bool
	fold         string
	foldErr      api.Errno
	runes, order int
}

func resultsOf(a, b string) (r results) {
	r.valid, r.match = label.Valid(a), label.Match(a, b)
	r.fold, r.foldErr = label.Fold(a)
	r.runes, r.order = label.Runes(a), label.Compare(a, b)
	return r
}

// TestRepeated checks P2: neither earlier calls nor their order matter.
func TestRepeated(t *testing.T) {
	var calls [][2]string
	for _, a := range slices.Concat(names, notNames, notUTF8) {
		for _, b := range []string{"a", "*", "Ä*", "", "\xff", a} {
			calls = append(calls, [2]string{a, b}, [2]string{b, a})
		}
	}
	var first []results
	for _, c := range calls {
		first = append(first, resultsOf(c[0], c[1]))
	}
	for i, c := range slices.Backward(calls) {
		if again := resultsOf(c[0], c[1]); again != first[i] {
			t.Errorf("%q: got %+v first and %+v then", c, first[i], again)
		}
	}
}
