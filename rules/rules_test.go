package rules_test

import (
	"math"
	"math/rand/v2"
	"regexp"
	"slices"
	"strconv"
	"strings"
	"testing"
	"unsafe"

	"airshare/api"
	"airshare/label"
	"airshare/rules"
)

// families are names; those of one family are equal under label.Compare, and no others.
var families = [][]string{
	{"a", "A"}, {"b", "B"}, {"ab", "AB", "aB"}, {"Ann", "ANN", "ann", "aNN"}, {"Ann-1"}, {"0"}, {"8"}, {"80-90"}, {"-"}, {"-1"}, {"_"}, {"."},
	{"ä", "Ä"}, {"Ωmega", "ωMEGA"}, {"Þ", "þ"}, {"×"}, {"÷"}, {"ÿ"}, {"Ÿ"}, {"ς"}, {"σ", "Σ"}, {"日本"}, {"\u00a1"}, {"\ufffc"}, {"😀"}, {"\U0010ffff"},
	// Among these are runes that other programs take for spaces.
	{"a\u2003b", "A\u2003B"}, {"\u3000"}, {"\u2028"}, {"\ufeff"}, {"a\u1680"},
	// And these are other programs' forms of signs and digits.
	{"\uff0a"}, {"\u2013"}, {"\uff1e1"}, {"\uff13"}, {"\u0663"},
	{strings.Repeat("x", 24), strings.Repeat("X", 24)}, {strings.Repeat("x", 23)}, {strings.Repeat("ä", 12), strings.Repeat("Ä", 12)}, {strings.Repeat("😀", 6)},
}

// notStations are neither empty nor names.
var notStations = []string{
	" ", "a b", "a ", " a", "*", "**", "a*", "*a", "a/b", ">", ">0", "a>", "\x00", "a\x00", "\n", "\t", "a\tb", "\r", "\x7f", "\u0085", "\u00a0", "\ufffd", "\x80", "\xff", "Ann\xc3", "\xed\xa0\x80", "+", "(a)",
	strings.Repeat("x", 25), strings.Repeat("ä", 13), strings.Repeat("ä", 12) + "x", strings.Repeat("x", 280), strings.Repeat("x", 1<<16+3),
}

// ports are permitted, at their ends and where their decimal or binary forms become longer.
var ports = []int{0, 1, 2, 5, 9, 10, 11, 79, 80, 81, 99, 100, 255, 256, 999, 1000, 9999, 10000, 32767, 32768, 65533, 65534, 65535}

// never are permitted in no field.
var never = []int{-2, -3, -7, -255, -65535, -65536, 1 << 16, 1<<16 + 1, 1<<16 + 7, 99999, 100000, 1 << 17, 1<<31 - 1, 1 << 31, 1 << 32, 1<<32 + 1, -1 << 32, math.MaxInt, math.MaxInt - 1, math.MinInt, math.MinInt + 1}

// names returns the names of all families.
func names() []string {
	return slices.Concat(families...)
}

// familyOf returns the index of the family of a name.
func familyOf(name string) int {
	return slices.IndexFunc(families, func(family []string) bool { return slices.Contains(family, name) })
}

// some is a rule whose numbers all differ.
func some() api.Rule {
	return api.Rule{Station: "Ann", Class: 3, First: 80, Last: 90, Flow: 2}
}

// all is the rule that matches every valid header.
func all() api.Rule {
	return api.Rule{Class: -1, Last: 65535}
}

// header is matched by some and all.
func header() api.Header {
	return api.Header{Station: "ANN", Class: 3, Port: 85, Length: 1500, Life: 7}
}

// invalidRules returns rules with one field each that is not permitted, made from the given one.
func invalidRules(from api.Rule) []api.Rule {
	var out []api.Rule
	add := func(change func(r *api.Rule)) {
		r := from
		change(&r)
		out = append(out, r)
	}
	for _, s := range notStations {
		add(func(r *api.Rule) { r.Station = s })
	}
	for _, n := range slices.Concat(never, []int{8, 9, 10, 15, 16, 255, 256 + 3, 65535}) {
		add(func(r *api.Rule) { r.Class = n })
	}
	for _, n := range slices.Concat(never, []int{-1}) {
		add(func(r *api.Rule) { r.First = n })
		add(func(r *api.Rule) { r.Last = n })
		add(func(r *api.Rule) { r.First, r.Last = n, n })
	}
	for _, n := range ports {
		add(func(r *api.Rule) { r.First, r.Last = n+1, n })
		add(func(r *api.Rule) { r.First, r.Last = 65535, n-1 })
	}
	for _, n := range slices.Concat(never, []int{-1, 32, 33, 64, 255, 256 + 2}) {
		add(func(r *api.Rule) { r.Flow = n })
	}
	return out
}

// invalidHeaders returns headers with one field each that is not permitted.
func invalidHeaders() []api.Header {
	var out []api.Header
	add := func(change func(h *api.Header)) {
		h := header()
		change(&h)
		out = append(out, h)
	}
	for _, s := range slices.Concat(notStations, []string{""}) {
		add(func(h *api.Header) { h.Station = s })
	}
	for _, n := range slices.Concat(never, []int{-1}) {
		add(func(h *api.Header) { h.Class = n })
		add(func(h *api.Header) { h.Port = n })
		add(func(h *api.Header) { h.Length = n })
		add(func(h *api.Header) { h.Life = n })
	}
	for _, n := range []int{8, 9, 255} {
		add(func(h *api.Header) { h.Class = n })
	}
	for _, n := range []int{0, 4097, 65535} {
		add(func(h *api.Header) { h.Length = n })
	}
	return out
}

// everyRule calls visit with rules that are valid: those with each name, each class, each pair of the listed ports and each flow, and random ones.
func everyRule(visit func(r api.Rule)) {
	for _, station := range append(names(), "") {
		for class := -1; class < 8; class++ {
			visit(api.Rule{Station: station, Class: class, First: 5, Last: 65535, Flow: 31})
		}
	}
	for _, first := range ports {
		for _, last := range ports {
			if first <= last {
				visit(api.Rule{Station: "b", Class: 0, First: first, Last: last})
				visit(api.Rule{Class: -1, First: first, Last: last, Flow: 30})
			}
		}
	}
	for flow := range 32 {
		visit(api.Rule{Station: "Ω", Class: 7, First: 1, Last: 2, Flow: flow})
	}
	source := rand.New(rand.NewPCG(51, 52))
	for range 3000 {
		visit(randomRule(source))
	}
}

// randomRule returns a rule that is valid. Its fields are few enough that many rules cover each other.
func randomRule(source *rand.Rand) api.Rule {
	r := api.Rule{Class: source.IntN(4) - 1, Flow: source.IntN(32)}
	if source.IntN(3) > 0 {
		r.Station = names()[source.IntN(9)]
	}
	if source.IntN(8) == 0 {
		r.Class = source.IntN(8)
	}
	r.First, r.Last = ports[source.IntN(len(ports))], ports[source.IntN(len(ports))]
	if r.First > r.Last {
		r.First, r.Last = r.Last, r.First
	}
	if source.IntN(4) == 0 {
		r.First, r.Last = 0, 65535
	}
	return r
}

// randomHeader returns a header that is valid.
func randomHeader(source *rand.Rand) api.Header {
	return api.Header{Station: names()[source.IntN(11)], Class: source.IntN(8) >> source.IntN(3), Port: ports[source.IntN(len(ports))], Length: 1 + source.IntN(4096), Life: source.IntN(65536)}
}

// wantText returns the text of a rule that is valid.
func wantText(r api.Rule) string {
	station, class := "*", "*"
	if r.Station != "" {
		station = r.Station
	}
	if r.Class >= 0 {
		class = strconv.Itoa(r.Class)
	}
	width := strconv.Itoa(r.First) + "-" + strconv.Itoa(r.Last)
	if r.First == r.Last {
		width = strconv.Itoa(r.First)
	}
	if width == "0-65535" {
		width = "*"
	}
	return strings.Join([]string{station, class, width, ">" + strconv.Itoa(r.Flow)}, " ")
}

// text is the grammar of texts.
var text = regexp.MustCompile(`(?s)\A([^ ]+) (\*|0|[1-9][0-9]{0,4}) (?:\*|(0|[1-9][0-9]{0,4})(-(0|[1-9][0-9]{0,4}))?) >(0|[1-9][0-9]{0,4})\z`)

// wantParse returns what Parse must return.
func wantParse(s string) (api.Rule, api.Errno) {
	parts := text.FindStringSubmatch(s)
	if parts == nil {
		return api.Rule{}, api.ErrSyntax
	}
	number := func(s string, otherwise int) int {
		if n, err := strconv.Atoi(s); err == nil {
			return n
		}
		return otherwise
	}
	r := api.Rule{Station: parts[1], Class: number(parts[2], -1), First: number(parts[3], 0), Last: number(parts[5], number(parts[3], 65535)), Flow: number(parts[6], -1)}
	if r.Station == "*" {
		r.Station = ""
	}
	if r.Station != "" && !label.Valid(r.Station) || r.Class > 7 || r.First > r.Last || r.Last > 65535 || r.Flow > 31 {
		return api.Rule{}, api.ErrInvalid
	}
	return r, api.OK
}

// fits reports whether a rule that is valid matches a header that is valid; their names are in families.
func fits(r api.Rule, h api.Header) bool {
	if r.Station != "" && familyOf(r.Station) != familyOf(h.Station) {
		return false
	}
	if r.Class != -1 && r.Class != h.Class {
		return false
	}
	return h.Port >= r.First && h.Port <= r.Last
}

// wantCovers returns whether a covers b, both valid, by the headers with each class, the ports where one of the rules begins or ends, and a station equal to that of each rule or to none.
func wantCovers(a, b api.Rule) bool {
	stations := []string{"someone-else"}
	for _, r := range []api.Rule{a, b} {
		if r.Station != "" {
			stations = append(stations, r.Station)
		}
	}
	for _, station := range stations {
		for class := range 8 {
			for _, port := range []int{a.First, a.Last, b.First, b.Last} {
				h := api.Header{Station: station, Class: class, Port: port}
				if fits(b, h) && !fits(a, h) {
					return false
				}
			}
		}
	}
	return true
}

func checkValid(t *testing.T, r api.Rule, want bool) {
	t.Helper()
	if got := rules.Valid(r); got != want {
		t.Fatalf("Valid(%+v) = %t", r, got)
	}
}

func checkParse(t *testing.T, s string, want api.Rule, wantErr api.Errno) {
	t.Helper()
	if got, err := rules.Parse(s); got != want || err != wantErr {
		t.Fatalf("Parse(%q) = %+v, %d, want %+v, %d", s, got, err, want, wantErr)
	}
}

// checkError checks that Parse returns an error and nothing beside it.
func checkError(t *testing.T, s string, want api.Errno) {
	t.Helper()
	checkParse(t, s, api.Rule{}, want)
}

// checkBoth checks Parse against wantParse.
func checkBoth(t *testing.T, s string) {
	t.Helper()
	r, err := wantParse(s)
	checkParse(t, s, r, err)
}

func checkFormat(t *testing.T, r api.Rule, want string, wantErr api.Errno) {
	t.Helper()
	if got, err := rules.Format(r); got != want || err != wantErr {
		t.Fatalf("Format(%+v) = %q, %d, want %q, %d", r, got, err, want, wantErr)
	}
}

func checkMatches(t *testing.T, r api.Rule, h api.Header, want bool) {
	t.Helper()
	if got := rules.Matches(r, h); got != want {
		t.Fatalf("Matches(%+v, %+v) = %t", r, h, got)
	}
}

func checkClassify(t *testing.T, list []api.Rule, h api.Header, want int, wantFound bool) {
	t.Helper()
	if got, found := rules.Classify(list, h); got != want || found != wantFound {
		t.Fatalf("Classify(%+v, %+v) = %d, %t, want %d, %t", list, h, got, found, want, wantFound)
	}
}

func checkCovers(t *testing.T, a, b api.Rule, want bool) {
	t.Helper()
	if got := rules.Covers(a, b); got != want {
		t.Fatalf("Covers(%+v, %+v) = %t", a, b, got)
	}
}

func checkShadowed(t *testing.T, list []api.Rule, want ...int) {
	t.Helper()
	if got := rules.Shadowed(list); !slices.Equal(got, want) {
		t.Fatalf("Shadowed(%+v) = %v, want %v", list, got, want)
	}
}

// parsed returns the rules with the given texts, one on a line.
func parsed(t *testing.T, lines string) []api.Rule {
	t.Helper()
	var out []api.Rule
	for line := range strings.SplitSeq(lines, "\n") {
		r, err := rules.Parse(line)
		if err != api.OK {
			t.Fatalf("Parse(%q): %d", line, err)
		}
		out = append(out, r)
	}
	return out
}

// TestExamples checks the chapter's examples.
func TestExamples(t *testing.T) {
	checkParse(t, "Ann 3 80-90 >2", api.Rule{Station: "Ann", Class: 3, First: 80, Last: 90, Flow: 2}, api.OK)
	source := rand.New(rand.NewPCG(53, 54))
	for range 1000 {
		checkMatches(t, parsed(t, "* * * >0")[0], randomHeader(source), true)
	}
	checkCovers(t, parsed(t, "* * 1-9 >0")[0], parsed(t, "a 2 5 >1")[0], true)
	checkError(t, "a 03 * >1", api.ErrSyntax)
}

// TestValid checks Valid of P9.1 for the fields of rules.
func TestValid(t *testing.T) {
	everyRule(func(r api.Rule) { checkValid(t, r, true) })
	for _, r := range slices.Concat(invalidRules(some()), invalidRules(all())) {
		checkValid(t, r, false)
	}
	checkValid(t, api.Rule{}, true)
	checkValid(t, api.Rule{Class: -1, First: 65535, Last: 65535, Flow: 31}, true)
	for n := -300; n < 66000; n++ {
		checkValid(t, api.Rule{Class: n, Last: 65535}, n >= -1 && n <= 7)
		checkValid(t, api.Rule{Flow: n}, n >= 0 && n <= 31)
		checkValid(t, api.Rule{First: n, Last: 65535}, n >= 0 && n <= 65535)
		checkValid(t, api.Rule{Last: n}, n >= 0 && n <= 65535)
		checkValid(t, api.Rule{First: n, Last: n}, n >= 0 && n <= 65535)
		checkValid(t, api.Rule{First: 100, Last: n}, n >= 100 && n <= 65535)
		checkValid(t, api.Rule{First: n, Last: 100}, n >= 0 && n <= 100)
	}
}

// written are rules and their texts.
var written = []struct {
	r api.Rule
	s string
}{
	{some(), "Ann 3 80-90 >2"},
	{all(), "* * * >0"},
	{api.Rule{}, "* 0 0 >0"},
	{api.Rule{Station: "a", Class: 7, First: 65535, Last: 65535, Flow: 31}, "a 7 65535 >31"},
	{api.Rule{Station: "Ä", Class: -1, First: 0, Last: 65534, Flow: 10}, "Ä * 0-65534 >10"},
	{api.Rule{Station: "a\u2003b", Class: 1, First: 1, Last: 65535, Flow: 9}, "a\u2003b 1 1-65535 >9"},
	{api.Rule{Class: 6, First: 9, Last: 10, Flow: 1}, "* 6 9-10 >1"},
	{api.Rule{Station: "-", Class: -1, First: 10000, Last: 10000, Flow: 5}, "- * 10000 >5"},
	{api.Rule{Station: "80-90", Class: 4, Last: 65535, Flow: 20}, "80-90 4 * >20"},
	{api.Rule{Station: strings.Repeat("Z", 24), Class: 2, Last: 1, Flow: 30}, "ZZZZZZZZZZZZZZZZZZZZZZZZ 2 0-1 >30"},
}

// TestWritten checks Parse and Format of P9.1 for rules that are written out.
func TestWritten(t *testing.T) {
	for _, c := range written {
		checkParse(t, c.s, c.r, api.OK)
		checkFormat(t, c.r, c.s, api.OK)
		if want := wantText(c.r); want != c.s {
			t.Errorf("the test expects both %q and %q", want, c.s)
		}
	}
}

// TestTexts checks Parse, Format and the first consequence for many rules that are valid.
func TestTexts(t *testing.T) {
	everyRule(func(r api.Rule) {
		s := wantText(r)
		checkFormat(t, r, s, api.OK)
		checkParse(t, s, r, api.OK)
	})
	for n := range 65536 {
		for _, r := range []api.Rule{{First: n, Last: n}, {First: n, Last: 65535}, {Station: "a", Class: -1, Last: n}} {
			s := wantText(r)
			checkFormat(t, r, s, api.OK)
			checkParse(t, s, r, api.OK)
		}
	}
}

// TestOtherTexts checks what Parse of P9.1 takes beside the texts of rules.
func TestOtherTexts(t *testing.T) {
	checkParse(t, "* * 0-65535 >0", all(), api.OK)
	checkParse(t, "a 3 0-65535 >1", api.Rule{Station: "a", Class: 3, Last: 65535, Flow: 1}, api.OK)
	for n := range 65536 {
		s := strconv.Itoa(n)
		checkParse(t, "Ann 3 "+s+"-"+s+" >2", api.Rule{Station: "Ann", Class: 3, First: n, Last: n, Flow: 2}, api.OK)
	}
}

// TestFormatInvalid checks the error of Format in P9.1.
func TestFormatInvalid(t *testing.T) {
	for _, r := range slices.Concat(invalidRules(some()), invalidRules(all())) {
		checkFormat(t, r, "", api.ErrInvalid)
	}
	checkFormat(t, api.Rule{Station: "*", Class: -2, First: -1, Last: -2, Flow: -1}, "", api.ErrInvalid)
}

// TestWords checks the first part of ErrSyntax in P9.1: the number of the words, and the spaces between them.
func TestWords(t *testing.T) {
	for _, s := range []string{
		"", " ", "  ", "   ", "    ", "a", "a 3", "a 3 *", "a 3 * ", "a 3 *  ", " 3 * >1", "a  * >1", "a 3  >1", "a 3 * >1 ", " a 3 * >1", "a  3 * >1", "a 3  * >1", "a 3 *  >1",
		"a 3 * >1 *", "a 3 * >1 >1", "a 3 * >1  ", "a b 3 * >1", "a 3 80 - 90 >1", "a 3 80- 90 >1", "a 3 * > 1", "a 3 * >1 a 3 * >1", "a3*>1", "* * * *", "* * * * >0",
		"a\t3\t*\t>1", "a\t3 * >1", "a 3\t* >1", "a 3 *\t>1", "a 3 *\n>1", "a\n3\n*\n>1", "a,3,*,>1", "a\u00a03\u00a0*\u00a0>1", "a\u20033\u2003*\u2003>1", "a 3\u2003* >1",
		"a 3 * >1\n", "a 3 * >1\r\n", "a 3 * >1\t", "a 3 * >1\x00", "a 3\n * >1", "a \t3 * >1", "a 3 *\x00 >1",
		strings.Repeat(" ", 1<<16), strings.Repeat("a ", 1<<16), strings.Repeat("x", 1<<16), "a 3 * >" + strings.Repeat("1", 1<<16), "a 3 " + strings.Repeat("1-", 1<<16) + " >1",
	} {
		checkError(t, s, api.ErrSyntax)
	}
	for _, c := range written {
		for n := range len(c.s) {
			checkBoth(t, c.s[:n])
			checkBoth(t, c.s[n:])
			checkBoth(t, c.s[:n]+" "+c.s[n:])
			checkBoth(t, c.s[:n]+c.s[n+1:])
		}
		checkError(t, c.s+" ", api.ErrSyntax)
		checkError(t, " "+c.s, api.ErrSyntax)
	}
}

// TestForms checks the second part of ErrSyntax in P9.1, for each word alone.
func TestForms(t *testing.T) {
	// No word is written like this.
	for _, w := range []string{
		"-", "--", "**", "*3", "3*", "-1", "-0", "+1", "+0", "00", "01", "03", "007", "000000", "0x3", "0b1", "0o7", "1_0", "1e1", "1.0", "3.", ".3", "3,", "1\n", "\n1", "\t1", "1\x00", "a", "A", "three", "",
		"100000", "999999", "000003", "0000000003", "18446744073709551616", "18446744073709551619", "4294967299", "-65535", "٣", "３", "³", "\xff", "3\xff", "＊", "∗",
	} {
		checkError(t, "a "+w+" * >1", api.ErrSyntax)
		checkError(t, "a 3 "+w+" >1", api.ErrSyntax)
		checkError(t, "a 3 "+w+"-5 >1", api.ErrSyntax)
		checkError(t, "a 3 5-"+w+" >1", api.ErrSyntax)
		checkError(t, "a 3 "+w+"-"+w+" >1", api.ErrSyntax)
		checkError(t, "a 3 * >"+w, api.ErrSyntax)
	}
	for _, class := range []string{"3-4", "3-3", "0-7", ">3", "-3", "3-", "*-3"} {
		checkError(t, "a "+class+" * >1", api.ErrSyntax)
	}
	for _, span := range []string{"5-", "-5", "5--6", "5-6-7", "5-6-", "-5-6", "5-*", "*-5", "*-*", "5-+6", "5–6", "5−6", "5..6", "5:6", "5,6", "5-06", "05-6", "05-06", "00-65535", "0-065535", "100000-100001", "5-100000", "100000-5", ">5", "5>"} {
		checkError(t, "a 3 "+span+" >1", api.ErrSyntax)
	}
	for _, flow := range []string{"", "1", "*", ">", ">>", ">>1", ">*", "1>", ">1>", "<1", "=1", "=>1", "->1", ">-1", ">1-2", "＞1", "≥1", "\x001"} {
		checkError(t, "a 3 * "+flow, api.ErrSyntax)
	}
}

// TestAllWords checks Parse against the grammar for all short words in each place.
func TestAllWords(t *testing.T) {
	letters := "019*-> +a"
	list, start := []string{""}, 0
	for range 4 {
		end := len(list)
		for _, w := range list[start:end] {
			for _, letter := range letters {
				list = append(list, w+string(letter))
			}
		}
		start = end
	}
	for _, w := range list {
		checkBoth(t, "a "+w+" * >1")
		checkBoth(t, "a 3 "+w+" >1")
		checkBoth(t, "a 3 * "+w)
		checkBoth(t, "a 3 * >"+w)
		checkBoth(t, w)
	}
	for n := range 120000 {
		s := strconv.Itoa(n)
		for _, w := range []string{s, "0" + s} {
			checkBoth(t, "a "+w+" * >1")
			checkBoth(t, "a 3 "+w+" >1")
			checkBoth(t, "a 3 10-"+w+" >1")
			checkBoth(t, "a 3 "+w+"-65535 >1")
			checkBoth(t, "a 3 * >"+w)
		}
	}
}

// TestParseInvalid checks ErrInvalid of Parse in P9.1, where all is written as described.
func TestParseInvalid(t *testing.T) {
	for _, s := range []string{
		"a 8 * >1", "a 9 * >1", "a 10 * >1", "a 65535 * >1", "a 99999 * >1", "a 3 65536 >1", "a 3 99999 >1", "a 3 0-65536 >1", "a 3 65536-65536 >1", "a 3 65535-65536 >1", "a 3 99998-99999 >1",
		"a 3 9-8 >1", "a 3 1-0 >1", "a 3 65535-0 >1", "a 3 65535-65534 >1", "a 3 99999-0 >1", "a 3 10-9 >1", "a 3 * >32", "a 3 * >33", "a 3 * >99999", "** 3 * >1", "*a 3 * >1", "a* 3 * >1", "** 8 9-8 >32",
	} {
		checkError(t, s, api.ErrInvalid)
	}
	for _, station := range notStations {
		if station == "*" {
			continue
		}
		want := api.ErrInvalid
		if strings.Contains(station, " ") {
			want = api.ErrSyntax
		}
		checkError(t, station+" 3 80-90 >2", want)
		checkError(t, station+" * * >0", want)
	}
}

// TestSyntaxFirst checks that ErrSyntax comes before ErrInvalid, wherever the two are.
func TestSyntaxFirst(t *testing.T) {
	invalid := []string{"**", "8", "9-8", ">32"}
	unwritten := [][]string{{""}, {"", "03", "-1", "100000"}, {"", "5-", "05", "1-2-3"}, {"", ">", "32", ">032", ">100000"}}
	for i, list := range unwritten {
		for _, w := range list {
			for j := range invalid {
				words := []string{"a", "3", "*", ">1"}
				words[j] = invalid[j]
				checkError(t, strings.Join(words, " "), api.ErrInvalid)
				words[i] = w
				checkError(t, strings.Join(words, " "), api.ErrSyntax)
			}
			words := slices.Clone(invalid)
			words[i] = w
			checkError(t, strings.Join(words, " "), api.ErrSyntax)
		}
	}
	checkError(t, "** 8 9-8 >32 x", api.ErrSyntax)
	checkError(t, "** 8 9-8", api.ErrSyntax)
}

// TestRandomTexts checks Parse for texts of rules in which some bytes are changed, added or left out.
func TestRandomTexts(t *testing.T) {
	source := rand.New(rand.NewPCG(55, 56))
	letters := strings.Split("0 1 2 3 4 5 6 7 8 9 * - > a A \x00 \xff \n ä", " ")
	letters = append(letters, " ", " ")
	counts := map[api.Errno]int{}
	for range 200000 {
		s := wantText(randomRule(source))
		for range source.IntN(3) {
			at := source.IntN(len(s) + 1)
			behind := min(at+source.IntN(2), len(s))
			letter := letters[source.IntN(len(letters))]
			s = s[:at] + letter[:source.IntN(len(letter)+1)] + s[behind:]
		}
		_, err := wantParse(s)
		counts[err]++
		checkBoth(t, s)
	}
	for _, err := range []api.Errno{api.OK, api.ErrSyntax, api.ErrInvalid} {
		if counts[err] < 10000 {
			t.Errorf("%d texts of the result %d", counts[err], err)
		}
	}
}

// TestMatches checks Matches of P9.2, a field at a time.
func TestMatches(t *testing.T) {
	for i, one := range families {
		for j, other := range families {
			for _, a := range one {
				for _, b := range other {
					r, h := some(), header()
					r.Station, h.Station = a, b
					checkMatches(t, r, h, i == j)
				}
			}
		}
	}
	for _, name := range names() {
		h := header()
		h.Station = name
		checkMatches(t, api.Rule{Class: 3, First: 80, Last: 90}, h, true)
		checkMatches(t, api.Rule{Class: 4, First: 80, Last: 90}, h, false)
	}
	for a := -1; a < 8; a++ {
		for b := range 8 {
			r, h := some(), header()
			r.Class, h.Class = a, b
			checkMatches(t, r, h, a == -1 || a == b)
		}
	}
	for port := range 65536 {
		h := header()
		h.Port = port
		checkMatches(t, some(), h, port >= 80 && port <= 90)
		checkMatches(t, all(), h, true)
		checkMatches(t, api.Rule{Class: 3, First: 1, Last: 65534}, h, port >= 1 && port <= 65534)
		checkMatches(t, api.Rule{Class: 3, First: 4711, Last: 4711}, h, port == 4711)
	}
	// All other fields of a header, and the flow, do not matter.
	for n := range 65536 {
		h := header()
		h.Length, h.Life = 1+n%4096, n
		r := some()
		r.Flow = n % 32
		checkMatches(t, r, h, true)
	}
}

// TestMatchesInvalid checks that no rule matches a header that is not valid, and that no rule matches which is not valid.
func TestMatchesInvalid(t *testing.T) {
	for _, h := range invalidHeaders() {
		checkMatches(t, all(), h, false)
		checkMatches(t, api.Rule{Class: h.Class, First: h.Port, Last: h.Port}, h, false)
		checkMatches(t, api.Rule{Station: h.Station, Class: h.Class, First: h.Port, Last: h.Port}, h, false)
		checkMatches(t, some(), h, false)
		checkClassify(t, []api.Rule{all(), some()}, h, -1, false)
	}
	for _, r := range slices.Concat(invalidRules(some()), invalidRules(all())) {
		h := header()
		checkMatches(t, r, h, false)
		h.Class, h.Port, h.Station = r.Class, r.First, r.Station
		checkMatches(t, r, h, false)
		checkClassify(t, []api.Rule{r}, header(), -1, false)
		checkClassify(t, []api.Rule{r, some()}, header(), 2, true)
	}
	checkMatches(t, all(), api.Header{}, false)
	checkMatches(t, api.Rule{}, api.Header{}, false)
}

// TestClassify checks Classify of P9.2.
func TestClassify(t *testing.T) {
	list := parsed(t, "bob * * >1\nann 3 80-90 >2\nann 3 * >31\nann * * >4\n* 3 * >0\n* 5 7 >6")
	for _, c := range []struct {
		station     string
		class, port int
		want        int
		found       bool
	}{
		{"Bob", 0, 0, 1, true}, {"BOB", 3, 85, 1, true}, {"Ann", 3, 80, 2, true}, {"ann", 3, 90, 2, true}, {"ann", 3, 91, 31, true}, {"ann", 3, 79, 31, true}, {"ANN", 2, 85, 4, true}, {"eve", 3, 85, 0, true}, {"eve", 5, 7, 6, true},
		{"eve", 5, 8, -1, false}, {"eve", 4, 7, -1, false}, {"annn", 0, 0, -1, false}, {"an", 0, 0, -1, false},
	} {
		checkClassify(t, list, api.Header{Station: c.station, Class: c.class, Port: c.port, Length: 1}, c.want, c.found)
	}
	checkClassify(t, nil, header(), -1, false)
	checkClassify(t, []api.Rule{}, header(), -1, false)
	for flow := range 32 {
		r := all()
		r.Flow = flow
		checkClassify(t, []api.Rule{r, all(), some()}, header(), flow, true)
		checkClassify(t, []api.Rule{{Station: "bob", Last: 65535, Flow: 9}, r}, header(), flow, true)
	}
	// A list may be longer than that of a machine.
	long := slices.Repeat(parsed(t, "bob 1 5 >3"), 5000)
	checkClassify(t, long, header(), -1, false)
	checkClassify(t, append(long, some(), all()), header(), 2, true)
}

// TestCovers checks Covers of P9.3, a field at a time.
func TestCovers(t *testing.T) {
	for _, c := range []struct {
		a, b string
		want bool
	}{
		{"* * * >0", "* * * >0", true}, {"* * * >0", "a 3 5 >1", true}, {"a 3 5 >0", "* * * >0", false}, {"a * * >0", "* * * >0", false}, {"* 3 * >0", "* * * >0", false}, {"* * 0-65534 >0", "* * * >0", false}, {"* * 1-65535 >0", "* * * >0", false},
		{"A 3 * >0", "a 3 7 >0", true}, {"A 3 * >0", "b 3 7 >0", false}, {"A 3 * >0", "a 4 7 >0", false}, {"* * 5 >0", "* * 4-5 >0", false}, {"* * 5 >0", "* * 5-6 >0", false}, {"* * 4-6 >0", "* * 5 >0", true}, {"* * 4-6 >0", "* * 4-6 >9", true},
		{"* * 4-6 >0", "* * 3-7 >0", false}, {"* * 4-6 >0", "* * 7-9 >0", false}, {"* * 4-6 >0", "* * 1-3 >0", false}, {"* * 4-6 >0", "* * 6-7 >0", false}, {"* * 4-6 >0", "* * 6 >0", true}, {"* * 4-6 >0", "* * 4 >0", true}, {"ä 0 0 >0", "Ä 0 0 >31", true},
	} {
		checkCovers(t, parsed(t, c.a)[0], parsed(t, c.b)[0], c.want)
	}
	for i, one := range families {
		for j, other := range families {
			a, b := some(), some()
			a.Station, b.Station = one[0], other[len(other)-1]
			checkCovers(t, a, b, i == j)
		}
		a, b := some(), some()
		a.Station, b.Station = one[0], ""
		checkCovers(t, a, b, false)
		checkCovers(t, b, a, true)
	}
	for class := -1; class < 8; class++ {
		for other := -1; other < 8; other++ {
			a, b := some(), some()
			a.Class, b.Class = class, other
			checkCovers(t, a, b, class == -1 || class == other)
		}
	}
	for n := range 1024 {
		for m := range 1024 {
			a, b := some(), some()
			a.First, a.Last, b.First, b.Last = n/32, n%32, m/32, m%32
			if a.First <= a.Last && b.First <= b.Last {
				checkCovers(t, a, b, a.First <= b.First && a.Last >= b.Last)
			} else {
				checkCovers(t, a, b, false)
			}
		}
	}
}

// TestCoversHeaders checks Covers of P9.3 against its definition by headers, and the second consequence.
func TestCoversHeaders(t *testing.T) {
	source := rand.New(rand.NewPCG(57, 58))
	covered := 0
	for range 100000 {
		a, b := randomRule(source), randomRule(source)
		want := wantCovers(a, b)
		checkCovers(t, a, b, want)
		checkCovers(t, a, a, true)
		if !want {
			continue
		}
		covered++
		for range 10 {
			if h := randomHeader(source); rules.Matches(b, h) {
				checkMatches(t, a, h, true)
			}
		}
	}
	if covered < 2000 {
		t.Errorf("only %d rules are covered", covered)
	}
}

// TestCoversInvalid checks that no rule is covered or covers another one if either is not valid.
func TestCoversInvalid(t *testing.T) {
	for _, r := range slices.Concat(invalidRules(some()), invalidRules(all())) {
		for _, other := range []api.Rule{all(), some(), r} {
			checkCovers(t, r, other, false)
			checkCovers(t, other, r, false)
		}
		checkShadowed(t, []api.Rule{all(), r})
		checkShadowed(t, []api.Rule{r, all()})
		checkShadowed(t, []api.Rule{r, r, some(), r, some(), r}, 4)
	}
}

// TestShadowed checks Shadowed of P9.3.
func TestShadowed(t *testing.T) {
	checkShadowed(t, nil)
	checkShadowed(t, []api.Rule{})
	checkShadowed(t, []api.Rule{all()})
	checkShadowed(t, []api.Rule{all(), all(), all()}, 1, 2)
	checkShadowed(t, []api.Rule{some(), all()})
	checkShadowed(t, []api.Rule{all(), some()}, 1)
	checkShadowed(t, parsed(t, "a * * >0\na 1 * >1\n* * * >2\nb * 5 >0\nA * * >0"), 1, 3, 4)
	// A later rule does not shadow, nor do two that cover a third one together.
	checkShadowed(t, parsed(t, "* * 5-15 >1\n* * 0-10 >0\n* * 11-20 >0\n* * 5-15 >1"), 3)
	checkShadowed(t, parsed(t, "* * 0-10 >0\n* * 11-20 >0\n* * 5-15 >1"))
	checkShadowed(t, parsed(t, "* 0 * >0\n* 1 * >0\n* 2 * >0\n* 3 * >0\n* 4 * >0\n* 5 * >0\n* 6 * >0\n* 7 * >0\n* * * >0"))
	// A rule that is shadowed shadows others, and so does one with another flow or with a rule between.
	checkShadowed(t, parsed(t, "* * 1-9 >0\n* * 2-8 >0\n* * 3-7 >5\nb 1 1 >0\n* * 0-9 >1\na 1 1 >7"), 1, 2, 3, 5)
	long := slices.Repeat(parsed(t, "bob 1 5 >3"), 1000)
	want := make([]int, 999)
	for i := range want {
		want[i] = i + 1
	}
	checkShadowed(t, long, want...)
	checkShadowed(t, append(long, some(), all(), some()), append(want, 1002)...)
}

// TestShadowedLists checks Shadowed for random lists, some of whose rules are not valid, against pairs of rules, and the third consequence.
func TestShadowedLists(t *testing.T) {
	source := rand.New(rand.NewPCG(59, 60))
	broken := slices.Concat(invalidRules(some()), invalidRules(all()))
	for range 2000 {
		list := make([]api.Rule, source.IntN(32))
		var want []int
		for i := range list {
			list[i] = randomRule(source)
			list[i].Flow = i
			if source.IntN(8) == 0 {
				list[i] = broken[source.IntN(len(broken))]
				continue
			}
			if slices.ContainsFunc(list[:i], func(a api.Rule) bool { return rules.Valid(a) && wantCovers(a, list[i]) }) {
				want = append(want, i)
			}
		}
		checkShadowed(t, list, want...)
		for range 50 {
			h := randomHeader(source)
			wantFlow := slices.IndexFunc(list, func(r api.Rule) bool { return rules.Valid(r) && fits(r, h) })
			if slices.Contains(want, wantFlow) {
				t.Fatalf("the rule %d of %+v is shadowed and decides on %+v", wantFlow, list, h)
			}
			if wantFlow >= 0 {
				checkClassify(t, list, h, list[wantFlow].Flow, true)
			} else {
				checkClassify(t, list, h, -1, false)
			}
		}
	}
}

// TestMemory checks that results lie in memory of their own, and that arguments are not changed.
func TestMemory(t *testing.T) {
	s := "Ann 3 80-90 >2"
	first, _ := rules.Parse(s)
	second, _ := rules.Parse(s)
	begin := uintptr(unsafe.Pointer(unsafe.StringData(s)))
	for _, r := range []api.Rule{first, second} {
		if at := uintptr(unsafe.Pointer(unsafe.StringData(r.Station))); at >= begin && at < begin+uintptr(len(s)) {
			t.Error("a station lies in the text")
		}
	}
	if unsafe.StringData(first.Station) == unsafe.StringData(second.Station) {
		t.Error("the stations of two rules share memory")
	}
	for _, r := range []api.Rule{some(), all()} {
		one, _ := rules.Format(r)
		two, _ := rules.Format(r)
		if unsafe.StringData(one) == unsafe.StringData(two) {
			t.Errorf("two texts %q share memory", one)
		}
	}
	list := parsed(t, "a * * >0\na 1 * >1\n* * * >2\nb * 5 >0\nA * * >0")
	before := slices.Clone(list)
	indices := rules.Shadowed(list)
	for i := range indices {
		indices[i] = -1
	}
	checkShadowed(t, list, 1, 3, 4)
	rules.Classify(list, header())
	if !slices.Equal(list, before) {
		t.Errorf("the list %+v has become %+v", before, list)
	}
	// What lies behind the end of a list is no part of it.
	checkClassify(t, list[:2], header(), -1, false)
	checkShadowed(t, list[:3:3], 1)
	if !slices.Equal(list, before) {
		t.Errorf("the list %+v has become %+v", before, list)
	}
}

// results is what all functions return for the same arguments.
type results struct {
	valid, matches, covers, found bool
	rule                          api.Rule
	parseErr, formatErr           api.Errno
	text                          string
	flow, shadowed                int
}

func resultsOf(a, b api.Rule, h api.Header, s string) (r results) {
	list := []api.Rule{a, b, a}
	r.valid, r.matches, r.covers = rules.Valid(a), rules.Matches(a, h), rules.Covers(a, b)
	r.rule, r.parseErr = rules.Parse(s)
	r.text, r.formatErr = rules.Format(a)
	r.flow, r.found = rules.Classify(list, h)
	r.shadowed = len(rules.Shadowed(list))
	return r
}

// TestRepeated checks P2: neither earlier calls nor their order matter.
func TestRepeated(t *testing.T) {
	source := rand.New(rand.NewPCG(61, 62))
	list := slices.Concat(invalidRules(some()), invalidRules(all()))
	everyRule(func(r api.Rule) { list = append(list, r) })
	headers := invalidHeaders()
	for len(headers) < len(list) {
		headers = append(headers, randomHeader(source))
	}
	var first []results
	call := func(i int) results {
		a := list[i]
		return resultsOf(a, list[len(list)-1-i], headers[i], wantText(a))
	}
	for i := range list {
		first = append(first, call(i))
	}
	for i := range slices.Backward(list) {
		if again := call(i); again != first[i] {
			t.Errorf("%+v: got %+v first and %+v then", list[i], first[i], again)
		}
	}
}
