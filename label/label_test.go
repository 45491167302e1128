package label_test

import (
	"maps"
	"regexp"
	"slices"
	"strings"
	"testing"
	"unsafe"

	"strandline/api"
	"strandline/label"
)

var plainName = regexp.MustCompile(`^[a-z][a-z0-9_]{0,15}$`)

// plainRune tells by the table of UTF-8 how many bytes the rune takes with which s begins, or -1.
func plainRune(s string) int {
	within := func(at int, from, to byte) bool { return at < len(s) && from <= s[at] && s[at] <= to }
	tail := func(at int) bool { return within(at, 0x80, 0xBF) }
	switch c := s[0]; {
	case c < 0x80:
		return 1
	case 0xC2 <= c && c <= 0xDF && tail(1):
		return 2
	case c == 0xE0 && within(1, 0xA0, 0xBF) && tail(2),
		c == 0xED && within(1, 0x80, 0x9F) && tail(2),
		0xE1 <= c && c <= 0xEF && c != 0xED && tail(1) && tail(2):
		return 3
	case c == 0xF0 && within(1, 0x90, 0xBF) && tail(2) && tail(3),
		c == 0xF4 && within(1, 0x80, 0x8F) && tail(2) && tail(3),
		0xF1 <= c && c <= 0xF3 && tail(1) && tail(2) && tail(3):
		return 4
	}
	return -1
}

func plainValue(s string) bool {
	if len(s) > 32 {
		return false
	}
	for s != "" {
		n := plainRune(s)
		if n < 0 {
			return false
		}
		s = s[n:]
	}
	return true
}

func plainCheck(l []api.Label) bool {
	for i, x := range l {
		if !plainName.MatchString(x.Name) || x.Value == "" || !plainValue(x.Value) || i > 0 && x.Name <= l[i-1].Name {
			return false
		}
	}
	return len(l) <= 8
}

func plainQuote(s string) string {
	s = strings.ReplaceAll(s, `\`, `\\`)
	s = strings.ReplaceAll(s, `"`, `\"`)
	return `"` + strings.ReplaceAll(s, "\n", `\n`) + `"`
}

func plainPrint(l []api.Label) string {
	s := "{"
	for i, x := range l {
		if i > 0 {
			s += ","
		}
		s += x.Name + "=" + plainQuote(x.Value)
	}
	return s + "}"
}

func plainKey(l []api.Label) string {
	s := ""
	for _, x := range l {
		s += string(rune(len(x.Name))) + x.Name + string(rune(len(x.Value))) + x.Value
	}
	return s
}

// texts are all texts of up to most pieces.
func texts(most int, pieces ...string) []string {
	all, last := []string{""}, []string{""}
	for range most {
		var next []string
		for _, s := range last {
			for _, p := range pieces {
				next = append(next, s+p)
			}
		}
		all, last = append(all, next...), next
	}
	return all
}

// made tells numbers that look like chance, and are the same each time.
type made uint64

func (m *made) below(n int) int {
	*m = *m*6364136223846793005 + 1442695040888963407
	x := uint64(*m)
	return int(((x ^ x>>29) * 0x9E3779B97F4A7C15 >> 3) % uint64(n))
}

func (m *made) text(most int, pieces ...string) string {
	s := ""
	for range m.below(most + 1) {
		s += pieces[m.below(len(pieces))]
	}
	return s
}

// labels are labels that may be.
func (m *made) labels() []api.Label {
	with := map[string]string{}
	for range m.below(9) {
		name := "a" + m.text(3, "a", "b", "z", "0", "9", "_")
		with[name] = "v" + m.text(7, "x", `"`, `\`, "\n", "n", ",", "=", "{", "}", "é", "日", "\x00", "\ufffd", "😀")
	}
	var l []api.Label
	for _, name := range slices.Sorted(maps.Keys(with)) {
		l = append(l, api.Label{Name: name, Value: with[name]})
	}
	return l
}

func numbered(count int) []api.Label {
	var l []api.Label
	for i := range count {
		l = append(l, api.Label{Name: string(rune('a' + i)), Value: "x"})
	}
	return l
}

func prints(t *testing.T, l []api.Label, want string) {
	t.Helper()
	if s, e := label.Print(l); s != want || e != api.OK {
		t.Errorf("Print(%q): %q, %v, want %q", l, s, e, want)
	}
}

func parses(t *testing.T, s string, want []api.Label) {
	t.Helper()
	if l, e := label.Parse(s); !slices.Equal(l, want) || e != api.OK {
		t.Errorf("Parse(%q): %q, %v, want %q", s, l, e, want)
	}
}

func parsesNot(t *testing.T, s string) {
	t.Helper()
	if l, e := label.Parse(s); len(l) != 0 || e != api.ErrForm {
		t.Errorf("Parse(%q): %q, %v", s, l, e)
	}
}

func keyed(t *testing.T, l []api.Label, want string) {
	t.Helper()
	if s, e := label.Key(l); s != want || e != api.OK {
		t.Errorf("Key(%q): %q, %v, want %q", l, s, e, want)
	}
}

// checks holds Check against may, and that Print and Key tell its error and nothing else.
func checks(t *testing.T, l []api.Label, may bool) {
	t.Helper()
	want := api.OK
	if !may {
		want = api.ErrLabel
	}
	if e := label.Check(l); e != want {
		t.Errorf("Check(%q): %v, want %v", l, e, want)
	}
	if s, e := label.Print(l); e != want || !may && s != "" {
		t.Errorf("Print(%q): %q, %v, want %v", l, s, e, want)
	}
	if s, e := label.Key(l); e != want || !may && s != "" {
		t.Errorf("Key(%q): %q, %v, want %v", l, s, e, want)
	}
}

// P4.1: every byte at the first place and at the others, both ends of the length, and runes beyond a byte.
func TestName(t *testing.T) {
	for c := range 256 {
		b := string([]byte{byte(c)})
		small := 'a' <= c && c <= 'z'
		if label.Name(b) != small {
			t.Errorf("Name(%q)", b)
		}
		for _, s := range []string{"a" + b, "a" + b + "z", "z9" + b} {
			if label.Name(s) != (small || '0' <= c && c <= '9' || c == '_') {
				t.Errorf("Name(%q)", s)
			}
		}
	}
	for n := range 40 {
		for _, s := range []string{strings.Repeat("a", n), strings.Repeat("z9_", n)[:n]} {
			if label.Name(s) != (1 <= n && n <= 16) {
				t.Errorf("Name(%q)", s)
			}
		}
	}
	for _, s := range []string{"é", "aé", "a\xc3", "ａ", "a٣", "aſ", "a\n", "\na", " a", "a ", "A", "aB", "a\u0000"} {
		if label.Name(s) {
			t.Errorf("Name(%q)", s)
		}
	}
}

// P4.1: all pairs of bytes, all triples and quadruples of the bytes at which UTF-8 changes its mind.
func TestValueIsUTF8(t *testing.T) {
	for x := range 256 {
		for y := range 256 {
			s := string([]byte{byte(x), byte(y)})
			if label.Value(s) != plainValue(s) {
				t.Errorf("Value(%q)", s)
			}
		}
	}
	edges := []string{"\x00", "\x7f", "\x80", "\x8f", "\x90", "\x9f", "\xa0", "\xbd", "\xbf", "\xc0", "\xc1", "\xc2", "\xdf", "\xe0", "\xe1", "\xec", "\xed", "\xee", "\xef", "\xf0", "\xf1", "\xf3", "\xf4", "\xf5", "\xff"}
	for _, s := range texts(4, edges...) {
		if label.Value(s) != plainValue(s) {
			t.Errorf("Value(%q)", s)
		}
	}
}

// P4.1: the length is of bytes, not of runes; a RuneError that is written as such is a rune.
func TestValue(t *testing.T) {
	for n := range 80 {
		if s := strings.Repeat("x", n); label.Value(s) != (n <= 32) {
			t.Errorf("Value(%q)", s)
		}
		if s := strings.Repeat("é", n); label.Value(s) != (n <= 16) {
			t.Errorf("Value(%q)", s)
		}
	}
	for s, may := range map[string]bool{
		"": true, "\ufffd": true, "a\ufffdb": true, "\ufffd\ufffd": true, "\U0010ffff": true, "\ud7ff\ue000": true, "\x00": true, "\"\\\n": true,
		"\ufffd\xff": false, "\xff\ufffd": false, "\xef\xbf": false, "\xef": false, "a\x80": false, "\x80a": false,
		"\xed\xa0\x80": false, "\xed\xbf\xbf": false, "\xed\xa0\x80\xed\xb0\x80": false, "\xc0\x80": false, "\xe0\x80\x80": false, "\xf0\x80\x80\x80": false, "\xf4\x90\x80\x80": false,
		strings.Repeat("x", 31) + "\xff": false, strings.Repeat("x", 29) + "\ufffd": true, strings.Repeat("x", 30) + "\ufffd": false,
	} {
		if label.Value(s) != may {
			t.Errorf("Value(%q): want %v", s, may)
		}
	}
}

// P4.1: each thing that may not be, at each place, and the edges of what may be.
func TestCheck(t *testing.T) {
	for n := range 20 {
		checks(t, numbered(n), n <= 8)
	}
	for _, name := range []string{"", "A", "_", "9", "é", "a-", "a\xff", strings.Repeat("a", 17)} {
		checks(t, []api.Label{{Name: name, Value: "x"}}, false)
	}
	for _, value := range []string{"", "\xff", "a\xc3", "\xed\xa0\x80", strings.Repeat("x", 33)} {
		for at := range 8 {
			l := numbered(8)
			l[at].Value = value
			checks(t, l, false)
		}
	}
	checks(t, []api.Label{{Name: strings.Repeat("a", 16), Value: strings.Repeat("x", 32)}}, true)
	for at := range 8 {
		l := numbered(8)
		l[at].Name = "B"
		checks(t, l, false)
		if at > 0 {
			l[at].Name = l[at-1].Name
			checks(t, l, false)
			l = numbered(8)
			l[at-1], l[at] = l[at], l[at-1]
			checks(t, l, false)
		}
	}
}

// P4.1: names rise as texts, byte by byte, and the values have no say in it.
func TestNamesRise(t *testing.T) {
	for _, names := range [][]string{{"a", "a0"}, {"a", "a_"}, {"a0", "a1"}, {"a10", "a2"}, {"a9", "a_"}, {"a_", "aa"}, {"aa", "ab"}, {"ab", "b"}, {"az", "b"}} {
		for _, values := range [][]string{{"x", "x"}, {"x", "y"}, {"y", "x"}} {
			l := []api.Label{{Name: names[0], Value: values[0]}, {Name: names[1], Value: values[1]}}
			checks(t, l, true)
			checks(t, []api.Label{l[1], l[0]}, false)
			l[1].Name = l[0].Name
			checks(t, l, false)
		}
	}
	checks(t, []api.Label{{Name: "a", Value: "x"}, {Name: "c", Value: "x"}, {Name: "b", Value: "x"}}, false)
	checks(t, []api.Label{{Name: "a", Value: "x"}, {Name: "b", Value: "x"}, {Name: "a", Value: "x"}}, false)
}

// P4.2: by hand.
func TestQuoteByHand(t *testing.T) {
	for s, want := range map[string]string{
		"": `""`, "x": `"x"`, `x"y`: `"x\"y"`, `\`: `"\\"`, "\n": `"\n"`, `\n`: `"\\n"`, `"`: `"\""`, `\"`: `"\\\""`, "\\\n": `"\\\n"`,
		"\t\r\x00": "\"\t\r\x00\"", "é日": `"é日"`, "\xff\xc3": "\"\xff\xc3\"", "\xe5\"\xe5\n\xe5": "\"\xe5\\\"\xe5\\n\xe5\"", strings.Repeat("x", 100): `"` + strings.Repeat("x", 100) + `"`,
	} {
		if got := label.Quote(s); got != want {
			t.Errorf("Quote(%q): %q, want %q", s, got, want)
		}
	}
}

// P4.2: all bytes, and whatever texts, values that may be or not.
func TestQuote(t *testing.T) {
	for c := range 256 {
		b := string([]byte{byte(c)})
		for _, s := range []string{b, b + b, "x" + b, b + "\n", "\"" + b, "\\" + b} {
			if got := label.Quote(s); got != plainQuote(s) {
				t.Errorf("Quote(%q): %q", s, got)
			}
		}
	}
	for _, s := range texts(6, `"`, `\`, "\n", "n", "\xc3") {
		if got := label.Quote(s); got != plainQuote(s) {
			t.Errorf("Quote(%q): %q", s, got)
		}
	}
}

// P4.2: by hand, and the example of the chapter.
func TestPrintByHand(t *testing.T) {
	for want, l := range map[string][]api.Label{
		`{}`:                      nil,
		`{a="x"}`:                 {{Name: "a", Value: "x"}},
		`{a="x\"y",b="z"}`:        {{Name: "a", Value: `x"y`}, {Name: "b", Value: "z"}},
		`{a_1="é",b="\\",c="\n"}`: {{Name: "a_1", Value: "é"}, {Name: "b", Value: `\`}, {Name: "c", Value: "\n"}},
		`{a="{b=\"x\"}"}`:         {{Name: "a", Value: `{b="x"}`}},
		`{a="\",b=\""}`:           {{Name: "a", Value: `",b="`}},
	} {
		prints(t, l, want)
		parses(t, want, l)
	}
	prints(t, []api.Label{}, `{}`)
}

// P4.2: what is none, though it looks like it.
func TestParseByHand(t *testing.T) {
	for _, s := range []string{
		``, `{`, `}`, `{}}`, `{{}`, `{}x`, `x{}`, ` {}`, `{ }`, `{,}`, "{}\n", `{a}`, `{a=}`, `{="x"}`, `{a=x}`, `{a="x}`, `{a=x"}`, `{a="x"`, `a="x"}`, `a="x"`, `{a="x"}}`, `{{a="x"}`,
		`{a=""}`, `{a="x",}`, `{,a="x"}`, `{a="x",,b="x"}`, `{a="x"b="x"}`, `{a="x";b="x"}`, `{a="x", b="x"}`, `{a= "x"}`, `{a ="x"}`, `{ a="x"}`, `{a="x" }`,
		`{b="x",a="x"}`, `{a="x",a="x"}`, `{a="x",a="y"}`, `{A="x"}`, `{1="x"}`, `{_="x"}`, `{é="x"}`,
		`{a="\x"}`, `{a="\t"}`, `{a="\}`, `{a="\"}`, `{a="\`, `{a="\\\"}`, "{a=\"\n\"}", "{a=\"\\\n\"}", "{a=\"\xff\"}", "{a=\"\xed\xa0\x80\"}", `{a='x'}`, `{a=xx"}`, `{a="x"x"}`, `{a=""x"}`,
		`{a="` + strings.Repeat("x", 33) + `"}`, `{` + strings.Repeat("a", 17) + `="x"}`, strings.Repeat("{", 5000), `{a="` + strings.Repeat(`\`, 5001), strings.Repeat(`a="x",`, 1000),
	} {
		parsesNot(t, s)
	}
	for n := range 20 {
		s := plainPrint(numbered(n))
		if n <= 8 {
			parses(t, s, numbered(n))
		} else {
			parsesNot(t, s)
		}
	}
	parses(t, `{a="`+strings.Repeat("x", 32)+`"}`, []api.Label{{Name: "a", Value: strings.Repeat("x", 32)}})
	parses(t, `{`+strings.Repeat("a", 16)+`="x"}`, []api.Label{{Name: strings.Repeat("a", 16), Value: "x"}})
}

// P4.2: of all short texts those alone are parsed that are the print of labels.
func TestParseOfAllShortTexts(t *testing.T) {
	are := map[string][]api.Label{"{}": nil}
	values := texts(3, "a", `"`, `\`, "\n", "n", "=", ",", "{", "}", "\xff")
	for _, x := range values {
		for _, name := range []string{"a", "n", "aa", "an", "na", "nn"} {
			if l := []api.Label{{Name: name, Value: x}}; plainCheck(l) {
				are[plainPrint(l)] = l
			}
		}
	}
	for _, piece := range texts(5, "{", "}", "a", "=", `"`, `\`, "n", "\n", ",") {
		for _, s := range []string{piece, "{" + piece + "}", `{a="` + piece + `"}`} {
			if l, ok := are[s]; ok {
				parses(t, s, l)
			} else {
				holds(t, s)
			}
		}
	}
}

// P4.2, P4.3, P4.4: whatever labels may be, and what comes of a print of which one byte is another one, is missing, or is one more.
func TestWhateverLabels(t *testing.T) {
	m := made(4)
	for range 1500 {
		l := m.labels()
		checks(t, l, true)
		s := plainPrint(l)
		prints(t, l, s)
		parses(t, s, l)
		keyed(t, l, plainKey(l))
		at, c := m.below(len(s)), m.pick()
		for _, odd := range []string{s[:at] + s[at+1:], s[:at] + c + s[at:], s[:at] + c + s[at+1:], s[:at]} {
			holds(t, odd)
		}
	}
}

// pick is a byte that means something in a print, or whatever one.
func (m *made) pick() string {
	const meaning = "{}a=\"\\n,\n\xff_0z"
	if m.below(4) == 0 {
		return string([]byte{byte(m.below(256))})
	}
	at := m.below(len(meaning))
	return meaning[at : at+1]
}

// holds tells whether Parse's labels of s, if there are any, have s as their print.
func holds(t *testing.T, s string) {
	t.Helper()
	l, e := label.Parse(s)
	if e == api.OK && (!plainCheck(l) || plainPrint(l) != s) || e != api.OK && (e != api.ErrForm || len(l) != 0) {
		t.Errorf("Parse(%q): %q, %v", s, l, e)
	}
}

// P4.3: the first one of the name, in whatever order, and whatever names and values.
func TestGet(t *testing.T) {
	l := []api.Label{{Name: "b", Value: "1"}, {Name: "a", Value: "2"}, {Name: "b", Value: "3"}, {Name: "", Value: "4"}, {Name: "c"}, {Name: "c", Value: "5"}, {Name: "É", Value: "\xff"}}
	for name, want := range map[string]string{"b": "1", "a": "2", "": "4", "c": "", "É": "\xff", "d": "", "aa": "", "B": ""} {
		if got := label.Get(l, name); got != want {
			t.Errorf("Get(%q): %q, want %q", name, got, want)
		}
	}
	if got := label.Get(nil, "a") + label.Get(nil, ""); got != "" {
		t.Errorf("Get(nil): %q", got)
	}
}

// P4.3: by hand, lengths of bytes, and both lengths at their ends.
func TestKeyByHand(t *testing.T) {
	keyed(t, nil, "")
	keyed(t, []api.Label{{Name: "a", Value: "x"}}, "\x01a\x01x")
	keyed(t, []api.Label{{Name: "ab", Value: "é"}, {Name: "b", Value: "\"\\\n"}}, "\x02ab\x02é\x01b\x03\"\\\n")
	keyed(t, []api.Label{{Name: strings.Repeat("a", 16), Value: strings.Repeat("x", 32)}}, "\x10"+strings.Repeat("a", 16)+"\x20"+strings.Repeat("x", 32))
}

// P4.3: labels of one name stay in their order, whatever their names and values are.
func TestSort(t *testing.T) {
	m := made(43)
	for _, count := range []int{0, 1, 2, 3, 5, 8, 13, 50, 300} {
		for range 30 {
			var l []api.Label
			for range count {
				l = append(l, api.Label{Name: m.text(2, "a", "b", "_", "", "\xff", "B"), Value: m.text(2, "x", "y", "\xff")})
			}
			was := slices.Clone(l)
			got := label.Sort(l)
			if !slices.Equal(got, plainSort(l)) {
				t.Fatalf("Sort(%q): %q", l, got)
			}
			if !slices.Equal(l, was) {
				t.Fatalf("Sort changed %q into %q", was, l)
			}
		}
	}
}

// plainSort puts each label ahead of the first one with a greater name.
func plainSort(l []api.Label) []api.Label {
	var sorted []api.Label
	for _, x := range l {
		at := 0
		for at < len(sorted) && sorted[at].Name <= x.Name {
			at++
		}
		sorted = slices.Insert(sorted, at, x)
	}
	return sorted
}

// P4.4: labels that may be, and are not the same, have different texts and different keys.
func TestLabelsDiffer(t *testing.T) {
	byText, byKey := map[string][]api.Label{}, map[string][]api.Label{}
	values := texts(2, "a", `"`, `\`, "\n", "n", ",", "=", "\x01", "\x02")
	var all [][]api.Label
	for _, x := range values {
		for _, name := range []string{"a", "aa", "n"} {
			all = append(all, []api.Label{{Name: name, Value: x}})
		}
		for _, y := range values {
			all = append(all, []api.Label{{Name: "a", Value: x}, {Name: "b", Value: y}})
		}
	}
	for _, l := range all {
		if !plainCheck(l) {
			continue
		}
		s, _ := label.Print(l)
		k, _ := label.Key(l)
		if other, ok := byText[s]; ok {
			t.Errorf("%q and %q: %q", l, other, s)
		}
		if other, ok := byKey[k]; ok {
			t.Errorf("%q and %q have the key %q", l, other, k)
		}
		byText[s], byKey[k] = l, l
		parses(t, s, l)
	}
}

// inside tells whether x stands in the memory of whole.
func inside(x, whole string) bool {
	if x == "" || whole == "" {
		return false
	}
	from, at := uintptr(unsafe.Pointer(unsafe.StringData(whole))), uintptr(unsafe.Pointer(unsafe.StringData(x)))
	return from <= at && at < from+uintptr(len(whole))
}

// R3: answers share no memory with what was handed in, which stays as it was, behind its length too.
func TestMemory(t *testing.T) {
	name, value := string([]byte("name_1")), string([]byte("va\"lue"))
	l := []api.Label{{Name: "zz", Value: "zz"}, {Name: name, Value: value}, {Name: "spare", Value: "x"}, {Name: "spare2", Value: "y"}}
	was := slices.Clone(l)
	sorted := label.Sort(l[:2])
	if inside(sorted[0].Name, name) || inside(sorted[0].Value, value) {
		t.Error("Sort: a text is shared")
	}
	sorted = append(sorted, api.Label{Name: "o", Value: "o"})
	sorted[0], sorted[1] = api.Label{}, api.Label{}
	label.Check(l[:2])
	label.Print(l[1:2])
	label.Key(l[1:2])
	if inside(label.Get(l[:2], name), value) {
		t.Error("Get: the value is shared")
	}
	if !slices.Equal(l, was) {
		t.Errorf("%q became %q", was, l)
	}
	s := string([]byte(`{name_1="value",name_2="\"\\"}`))
	p, e := label.Parse(s)
	if e != api.OK || len(p) != 2 {
		t.Fatal(p, e)
	}
	for _, x := range p {
		if inside(x.Name, s) || inside(x.Value, s) {
			t.Errorf("Parse: a text of %q is shared", x)
		}
	}
}

// R5: the same again, whatever was asked ahead of it.
func TestAgain(t *testing.T) {
	l := []api.Label{{Name: "a", Value: `x"y`}, {Name: "b", Value: "z"}}
	for range 3 {
		prints(t, l, `{a="x\"y",b="z"}`)
		parses(t, `{a="x\"y",b="z"}`, l)
		parsesNot(t, `{a="x\"y",b="z"`)
		checks(t, l[:1], true)
		keyed(t, l, "\x01a\x03x\"y\x01b\x01z")
	}
}
