package match_test

import (
	"math"
	"regexp"
	"slices"
	"strings"
	"testing"
	"unicode/utf8"
	"unsafe"

	"strandline/api"
	"strandline/match"
)

var plainName = regexp.MustCompile(`^[a-z][a-z0-9_]{0,15}$`)

var oddKinds = []int{-1, 4, 5, 7, 8, 256, 257, math.MinInt, math.MaxInt, 1 << 32, -1 << 32}

func plainValue(s string) bool {
	return len(s) <= 32 && utf8.ValidString(s)
}

func plainCheck(m api.Matcher) bool {
	if !plainName.MatchString(m.Name) {
		return false
	}
	if m.Kind == 3 {
		for i, v := range m.Set {
			if !plainValue(v) || i > 0 && v <= m.Set[i-1] {
				return false
			}
		}
		return m.Value == "" && 1 <= len(m.Set) && len(m.Set) <= 8
	}
	return 0 <= m.Kind && m.Kind <= 2 && plainValue(m.Value) && len(m.Set) == 0
}

func plainAll(ms []api.Matcher) bool {
	for _, m := range ms {
		if !plainCheck(m) {
			return false
		}
	}
	return len(ms) <= 8
}

func plainOne(m api.Matcher, l []api.Label) bool {
	v := ""
	for i := len(l) - 1; i >= 0; i-- {
		if l[i].Name == m.Name {
			v = l[i].Value
		}
	}
	in := false
	for _, x := range m.Set {
		in = in || x == v
	}
	return m.Kind == 0 && v == m.Value || m.Kind == 1 && v != m.Value || m.Kind == 3 && in ||
		m.Kind == 2 && len(v) >= len(m.Value) && v[:len(m.Value)] == m.Value
}

func plainQuote(s string) string {
	s = strings.ReplaceAll(s, `\`, `\\`)
	s = strings.ReplaceAll(s, `"`, `\"`)
	return `"` + strings.ReplaceAll(s, "\n", `\n`) + `"`
}

func plainPrint(ms []api.Matcher) string {
	s := "["
	for i, m := range ms {
		if i > 0 {
			s += ","
		}
		s += m.Name + []string{"=", "!=", "^=", "@="}[m.Kind]
		if m.Kind < 3 {
			s += plainQuote(m.Value)
		}
		for i, v := range m.Set {
			if i > 0 {
				s += "|"
			}
			s += plainQuote(v)
		}
	}
	return s + "]"
}

func same(x, y []api.Matcher) bool {
	return slices.EqualFunc(x, y, func(a, b api.Matcher) bool {
		return a.Kind == b.Kind && a.Name == b.Name && a.Value == b.Value && slices.Equal(a.Set, b.Set)
	})
}

// texts are all texts of up to most pieces.
func texts(most int, pieces ...string) []string {
	all, last := []string{""}, []string{""}
	for range most {
		var next []string
		for _, s := range last {
			for _, p := range pieces {
				next = append(next, s+p)
			}
		}
		all, last = append(all, next...), next
	}
	return all
}

// made tells numbers that look like chance, and are the same each time.
type made uint64

func (m *made) below(n int) int {
	*m = *m*6364136223846793005 + 1442695040888963407
	x := uint64(*m)
	return int(((x ^ x>>29) * 0x9E3779B97F4A7C15 >> 3) % uint64(n))
}

func (m *made) text(most int, pieces ...string) string {
	s := ""
	for range m.below(most + 1) {
		s += pieces[m.below(len(pieces))]
	}
	return s
}

func (m *made) value() string {
	return m.text(7, "x", `"`, `\`, "\n", "n", ",", "=", "!", "^", "@", "|", "[", "]", "é", "日", "\x00", "\ufffd", "😀")
}

// matchers are matchers that may be.
func (m *made) matchers() []api.Matcher {
	var ms []api.Matcher
	for range m.below(9) {
		x := api.Matcher{Kind: m.below(4), Name: "a" + m.text(3, "a", "b", "z", "0", "9", "_")}
		if x.Kind < 3 {
			x.Value = m.value()
		} else {
			for range 1 + m.below(8) {
				x.Set = append(x.Set, m.value())
			}
			slices.Sort(x.Set)
			x.Set = slices.Compact(x.Set)
		}
		ms = append(ms, x)
	}
	return ms
}

// pick is a byte that means something in a print, or whatever one.
func (m *made) pick() string {
	const meaning = "[]a=\"\\n,|!^@\n\xff_0z"
	if m.below(4) == 0 {
		return string([]byte{byte(m.below(256))})
	}
	at := m.below(len(meaning))
	return meaning[at : at+1]
}

// rising are values that may stand in a Set.
func rising(count int) []string {
	var l []string
	for i := range count {
		l = append(l, string(rune('a'+i)))
	}
	return l
}

func prints(t *testing.T, ms []api.Matcher, want string) {
	t.Helper()
	if s, e := match.Print(ms); s != want || e != api.OK {
		t.Errorf("Print(%#v): %q, %v, want %q", ms, s, e, want)
	}
}

func printsNot(t *testing.T, ms []api.Matcher) {
	t.Helper()
	if s, e := match.Print(ms); s != "" || e != api.ErrMatch {
		t.Errorf("Print(%#v): %q, %v", ms, s, e)
	}
}

func parses(t *testing.T, s string, want []api.Matcher) {
	t.Helper()
	if ms, e := match.Parse(s); !same(ms, want) || e != api.OK {
		t.Errorf("Parse(%q): %#v, %v, want %#v", s, ms, e, want)
	}
}

func parsesNot(t *testing.T, s string) {
	t.Helper()
	if ms, e := match.Parse(s); len(ms) != 0 || e != api.ErrForm {
		t.Errorf("Parse(%q): %#v, %v", s, ms, e)
	}
}

// holds tells whether Parse's matchers of s, if there are any, have s as their print.
func holds(t *testing.T, s string) {
	t.Helper()
	ms, e := match.Parse(s)
	if e == api.OK && (!plainAll(ms) || plainPrint(ms) != s) || e != api.OK && (e != api.ErrForm || len(ms) != 0) {
		t.Errorf("Parse(%q): %#v, %v", s, ms, e)
	}
}

// checks holds Check against may, and that Print tells its error wherever m stands.
func checks(t *testing.T, m api.Matcher, may bool) {
	t.Helper()
	if plainCheck(m) != may {
		t.Errorf("%#v: is the test wrong?", m)
	}
	fine := api.Matcher{Name: "a"}
	if e := match.Check(m); may && e != api.OK || !may && e != api.ErrMatch {
		t.Errorf("Check(%#v): %v, want %v", m, e, may)
	}
	for _, ms := range [][]api.Matcher{{m}, {m, fine}, {fine, m}, {fine, m, fine}} {
		if may {
			prints(t, ms, plainPrint(ms))
			parses(t, plainPrint(ms), ms)
		} else {
			printsNot(t, ms)
		}
	}
}

// whole are matchers of all Kinds that may be but for what is changed in them.
func whole(change func(m *api.Matcher)) []api.Matcher {
	ms := []api.Matcher{{Kind: 0, Name: "a", Value: "x"}, {Kind: 1, Name: "a", Value: "x"}, {Kind: 2, Name: "a", Value: "x"}, {Kind: 3, Name: "a", Set: []string{"x", "y"}}}
	for i := range ms {
		change(&ms[i])
	}
	return ms
}

// P5.1: names, with each Kind.
func TestCheckNames(t *testing.T) {
	for _, name := range []string{"a", "z", "a0", "a_", "z9_", strings.Repeat("a", 16)} {
		for _, m := range whole(func(m *api.Matcher) { m.Name = name }) {
			checks(t, m, true)
		}
	}
	for _, name := range []string{"", "A", "_", "9", "é", "a-", "a=", "a!", "a ", " a", "a\n", "a\xff", strings.Repeat("a", 17)} {
		for _, m := range whole(func(m *api.Matcher) { m.Name = name }) {
			checks(t, m, false)
		}
	}
}

// P5.1: there are four Kinds, whatever the matcher looks for.
func TestCheckKinds(t *testing.T) {
	for _, kind := range oddKinds {
		for _, m := range whole(func(m *api.Matcher) { m.Kind = kind }) {
			checks(t, m, false)
		}
		checks(t, api.Matcher{Kind: kind, Name: "a"}, false)
	}
	for kind := range 3 {
		checks(t, api.Matcher{Kind: kind, Name: "a"}, true)
	}
	checks(t, api.Matcher{Kind: 3, Name: "a"}, false)
	checks(t, api.Matcher{}, false)
}

// P5.1: of Kinds 0, 1, 2 a label's value, or none, and nothing in Set.
func TestCheckValue(t *testing.T) {
	for kind := range 3 {
		for _, v := range []string{"", "x", "\"", "\\", "\n", "\x00", "é", "\ufffd", strings.Repeat("x", 32), strings.Repeat("é", 16), strings.Repeat(`"`, 32)} {
			checks(t, api.Matcher{Kind: kind, Name: "a", Value: v}, true)
			checks(t, api.Matcher{Kind: kind, Name: "a", Value: v, Set: []string{}}, true)
			for _, set := range [][]string{{"x"}, {""}, {v}, {"x", "y"}} {
				checks(t, api.Matcher{Kind: kind, Name: "a", Value: v, Set: set}, false)
			}
		}
		for _, v := range []string{"\xff", "a\xc3", "\xed\xa0\x80", "\xc0\x80", "\ufffd\xff", strings.Repeat("x", 33), strings.Repeat("é", 17)} {
			checks(t, api.Matcher{Kind: kind, Name: "a", Value: v}, false)
		}
	}
}

// P5.1: of Kind 3 no Value, and 1 to 8 values that rise; each thing that may not be, at each place.
func TestCheckSet(t *testing.T) {
	for n := range 20 {
		checks(t, api.Matcher{Kind: 3, Name: "a", Set: rising(n)}, 1 <= n && n <= 8)
	}
	for n := 1; n <= 8; n++ {
		checks(t, api.Matcher{Kind: 3, Name: "a", Value: "x", Set: rising(n)}, false)
		for at := range n {
			for _, v := range []string{"\xff", "b\xc3", "\xed\xa0\x80", strings.Repeat("x", 33)} {
				set := rising(n)
				set[at] = v
				checks(t, api.Matcher{Kind: 3, Name: "a", Set: set}, false)
			}
			if at > 0 {
				set := rising(n)
				set[at] = set[at-1]
				checks(t, api.Matcher{Kind: 3, Name: "a", Set: set}, false)
				set = rising(n)
				set[at-1], set[at] = set[at], set[at-1]
				checks(t, api.Matcher{Kind: 3, Name: "a", Set: set}, false)
			}
		}
	}
	checks(t, api.Matcher{Kind: 3, Name: "a", Value: "\xff", Set: []string{"x"}}, false)
}

// P5.1: a Set rises as texts, byte by byte; the empty text may be the first one.
func TestSetRises(t *testing.T) {
	for _, set := range [][]string{{""}, {"", "a"}, {"a", "aa"}, {"a", "b"}, {"a10", "a2"}, {"B", "a"}, {"a", "é"}, {"z", "é"}, {"\n", "\""}, {"\"", "\\"}, {"\uffff", "\U00010000"}, {strings.Repeat("a", 31), strings.Repeat("a", 32)}} {
		checks(t, api.Matcher{Kind: 3, Name: "a", Set: set}, true)
		slices.Reverse(set)
		checks(t, api.Matcher{Kind: 3, Name: "a", Set: set}, len(set) == 1)
		checks(t, api.Matcher{Kind: 3, Name: "a", Set: []string{set[0], set[0]}}, false)
	}
	checks(t, api.Matcher{Kind: 3, Name: "a", Set: []string{"a", "c", "b"}}, false)
	checks(t, api.Matcher{Kind: 3, Name: "a", Set: []string{"a", "b", "a"}}, false)
}

// P5.2: by hand: v is there, is empty, is not there, stands twice.
func TestOneByHand(t *testing.T) {
	l := []api.Label{{Name: "b", Value: "fox"}, {Name: "a", Value: "foo"}, {Name: "b", Value: "bar"}, {Name: "e"}}
	for i, x := range []struct {
		m  api.Matcher
		is bool
	}{
		{api.Matcher{Kind: 0, Name: "a", Value: "foo"}, true}, {api.Matcher{Kind: 0, Name: "a", Value: "fo"}, false}, {api.Matcher{Kind: 0, Name: "a", Value: "fooo"}, false}, {api.Matcher{Kind: 0, Name: "a"}, false},
		{api.Matcher{Kind: 1, Name: "a", Value: "foo"}, false}, {api.Matcher{Kind: 1, Name: "a", Value: "fo"}, true}, {api.Matcher{Kind: 1, Name: "a"}, true},
		{api.Matcher{Kind: 2, Name: "a", Value: "foo"}, true}, {api.Matcher{Kind: 2, Name: "a", Value: "f"}, true}, {api.Matcher{Kind: 2, Name: "a"}, true}, {api.Matcher{Kind: 2, Name: "a", Value: "oo"}, false}, {api.Matcher{Kind: 2, Name: "a", Value: "fooo"}, false},
		{api.Matcher{Kind: 3, Name: "a", Set: []string{"bar", "foo"}}, true}, {api.Matcher{Kind: 3, Name: "a", Set: []string{"bar", "fo", "fooo"}}, false}, {api.Matcher{Kind: 3, Name: "a", Set: []string{""}}, false}, {api.Matcher{Kind: 3, Name: "a"}, false},
		{api.Matcher{Kind: 0, Name: "b", Value: "fox"}, true}, {api.Matcher{Kind: 0, Name: "b", Value: "bar"}, false}, {api.Matcher{Kind: 3, Name: "b", Set: []string{"bar"}}, false},
		{api.Matcher{Kind: 0, Name: "c"}, true}, {api.Matcher{Kind: 0, Name: "e"}, true}, {api.Matcher{Kind: 1, Name: "c"}, false}, {api.Matcher{Kind: 1, Name: "e"}, false}, {api.Matcher{Kind: 1, Name: "c", Value: "x"}, true},
		{api.Matcher{Kind: 2, Name: "c"}, true}, {api.Matcher{Kind: 2, Name: "c", Value: "x"}, false}, {api.Matcher{Kind: 3, Name: "c", Set: []string{"", "x"}}, true}, {api.Matcher{Kind: 3, Name: "e", Set: []string{""}}, true}, {api.Matcher{Kind: 3, Name: "c", Set: []string{"x"}}, false}, {api.Matcher{Kind: 3, Name: "c"}, false},
		{api.Matcher{Kind: 2, Name: "a", Value: "f\x6f"}, true}, {api.Matcher{Kind: 0, Name: "A", Value: "foo"}, false}, {api.Matcher{Kind: 1, Name: "A", Value: "foo"}, true},
	} {
		if match.One(x.m, l) != x.is || plainOne(x.m, l) != x.is {
			t.Errorf("%d: One(%#v): want %v", i, x.m, x.is)
		}
	}
}

// P5.2: what Check refuses is looked at nonetheless, but for Kinds that there are not.
func TestOneOfWhatMayNotBe(t *testing.T) {
	l := []api.Label{{Name: "", Value: "x"}, {Name: "É", Value: "\xff\xfe"}, {Name: "a", Value: "x"}}
	long := strings.Repeat("x", 1000)
	for i, m := range []api.Matcher{
		{Kind: 0, Value: "x"}, {Kind: 0, Name: "É", Value: "\xff\xfe"}, {Kind: 1, Name: "É", Value: "\xff"}, {Kind: 2, Name: "É", Value: "\xff"}, {Kind: 3, Name: "É", Set: []string{"y", "\xff\xfe", "a", "a"}},
		{Kind: 0, Name: "a", Value: "x", Set: []string{"y"}}, {Kind: 1, Name: "a", Value: "y", Set: []string{"x"}}, {Kind: 2, Name: "a", Value: "x", Set: []string{"y"}}, {Kind: 3, Name: "a", Value: "y", Set: []string{"x"}},
		{Kind: 3, Name: "a", Set: append(rising(20), "x")}, {Kind: 1, Name: "a", Value: long}, {Kind: 0, Name: long}, {Kind: 3, Name: "a", Set: []string{"x", "x"}}, {Kind: 3, Name: "a", Set: []string{"z", "x", "y"}},
	} {
		if !match.One(m, l) || !plainOne(m, l) {
			t.Errorf("%d: One(%#v)", i, m)
		}
		if match.Check(m) != api.ErrMatch {
			t.Errorf("%d: Check(%#v)", i, m)
		}
		for _, m.Kind = range oddKinds {
			if match.One(m, l) || match.One(m, nil) || match.All([]api.Matcher{m}, l) {
				t.Errorf("%d: One(%#v)", i, m)
			}
		}
	}
}

// P5.2, P5.4: all short values, in Value, in Set, and in a label or in none; = and != are never both so.
func TestOne(t *testing.T) {
	values := texts(3, "a", "b", "\xff")
	for _, v := range values {
		for _, l := range [][]api.Label{nil, {{Name: "b", Value: v}}, {{Name: "a", Value: v}}, {{Name: "aa", Value: "a"}, {Name: "a", Value: v}, {Name: "a", Value: "b"}}} {
			for _, x := range values {
				for _, m := range []api.Matcher{{Value: x}, {Set: []string{x}}, {Value: x, Set: []string{"a", x, ""}}, {Set: []string{"ab", "b", x}}} {
					m.Name = "a"
					for m.Kind = -1; m.Kind < 5; m.Kind++ {
						if match.One(m, l) != plainOne(m, l) {
							t.Errorf("One(%#v, %q)", m, l)
						}
					}
				}
				if match.One(api.Matcher{Kind: 0, Name: "a", Value: x}, l) == match.One(api.Matcher{Kind: 1, Name: "a", Value: x}, l) {
					t.Errorf("= and != of %q, %q", x, l)
				}
			}
		}
	}
}

// P5.2: each of them, none of none, and one that fails at each place; as many as there are.
func TestAll(t *testing.T) {
	l := []api.Label{{Name: "a", Value: "foo"}, {Name: "b", Value: "x"}}
	for _, l := range [][]api.Label{l, nil} {
		if !match.All(nil, l) || !match.All([]api.Matcher{}, l) {
			t.Errorf("All(none, %q)", l)
		}
	}
	are := []api.Matcher{{Kind: 0, Name: "a", Value: "foo"}, {Kind: 1, Name: "a", Value: "x"}, {Kind: 2, Name: "a", Value: "f"}, {Kind: 3, Name: "b", Set: []string{"x", "y"}}}
	for _, odd := range []api.Matcher{{Kind: 0, Name: "a", Value: "x"}, {Kind: 1, Name: "b", Value: "x"}, {Kind: 2, Name: "b", Value: "xx"}, {Kind: 3, Name: "c", Set: []string{"x"}}, {Kind: 4, Name: "a"}, {Kind: -1, Name: "a"}} {
		for n := range 20 {
			var ms []api.Matcher
			for i := range n {
				ms = append(ms, are[i%len(are)])
			}
			if !match.All(ms, l) {
				t.Errorf("All of %d", n)
			}
			for at := range n {
				part := slices.Clone(ms)
				part[at] = odd
				if match.All(part, l) {
					t.Errorf("All of %d with %#v at %d", n, odd, at)
				}
			}
		}
	}
	if !match.All([]api.Matcher{{Kind: 0, Name: "A"}, {Kind: 0, Name: "a", Value: "foo", Set: []string{"x"}}}, l) {
		t.Error("All of what may not be")
	}
}

// P5.3: by hand, and the example of the chapter.
func TestPrintByHand(t *testing.T) {
	for want, ms := range map[string][]api.Matcher{
		`[]`:                       nil,
		`[a="x"]`:                  {{Name: "a", Value: "x"}},
		`[a!="x",b@="y"|"z"]`:      {{Kind: 1, Name: "a", Value: "x"}, {Kind: 3, Name: "b", Set: []string{"y", "z"}}},
		`[a="",a!="",a^="",a@=""]`: {{Kind: 0, Name: "a"}, {Kind: 1, Name: "a"}, {Kind: 2, Name: "a"}, {Kind: 3, Name: "a", Set: []string{""}}},
		`[b^="\"\\\n",a="é"]`:      {{Kind: 2, Name: "b", Value: "\"\\\n"}, {Kind: 0, Name: "a", Value: "é"}},
		`[a@=""|"\n"|"\""|"\\"]`:   {{Kind: 3, Name: "a", Set: []string{"", "\n", `"`, `\`}}},
		`[a="!=",b!="=",c^="@=",d@="!="|"^="|"|"]`: {{Kind: 0, Name: "a", Value: "!="}, {Kind: 1, Name: "b", Value: "="}, {Kind: 2, Name: "c", Value: "@="}, {Kind: 3, Name: "d", Set: []string{"!=", "^=", "|"}}},
		`[a="\",b=\"",a="\"|\""]`:                  {{Name: "a", Value: `",b="`}, {Name: "a", Value: `"|"`}},
		`[a_1="[b=\"x\"]"]`:                        {{Name: "a_1", Value: `[b="x"]`}},
		`[b="x",a="x",a="x"]`:                      {{Name: "b", Value: "x"}, {Name: "a", Value: "x"}, {Name: "a", Value: "x"}},
	} {
		prints(t, ms, want)
		parses(t, want, ms)
	}
	prints(t, []api.Matcher{}, `[]`)
}

// P5.3: eight matchers at most; one that may not be, at each place, also of more than eight.
func TestPrintOfMany(t *testing.T) {
	for n := range 20 {
		var ms []api.Matcher
		for i := range n {
			ms = append(ms, api.Matcher{Kind: i % 3, Name: string(rune('z' - i)), Value: "x"})
		}
		s := plainPrint(ms)
		if n <= 8 {
			prints(t, ms, s)
			parses(t, s, ms)
		} else {
			printsNot(t, ms)
			parsesNot(t, s)
		}
		for at := range n {
			part := slices.Clone(ms)
			part[at].Name = "A"
			printsNot(t, part)
			parsesNot(t, plainPrint(part))
		}
	}
	var most []api.Matcher
	for i := range 8 {
		most = append(most, api.Matcher{Kind: 3, Name: strings.Repeat(string(rune('h'-i)), 16)})
		for k := range 8 {
			most[i].Set = append(most[i].Set, strings.Repeat(string(rune('a'+k)), 32))
		}
	}
	prints(t, most, plainPrint(most))
	parses(t, plainPrint(most), most)
	printsNot(t, make([]api.Matcher, 500))
}

// P5.3: what is none, though it looks like it.
func TestParseByHand(t *testing.T) {
	for _, s := range []string{
		``, `[`, `]`, `[]]`, `[[]`, `[]x`, `x[]`, ` []`, `[ ]`, `[,]`, "[]\n", `{}`, `()`, `[a]`, `[a=]`, `[="x"]`, `[a=x]`, `[a="x]`, `[a=x"]`, `[a="x"`, `a="x"]`, `a="x"`, `[a="x"]]`, `[[a="x"]`, `{a="x"}`,
		`[a="x",]`, `[,a="x"]`, `[a="x",,b="x"]`, `[a="x"b="x"]`, `[a="x";b="x"]`, `[a="x", b="x"]`, `[a= "x"]`, `[a ="x"]`, `[ a="x"]`, `[a="x" ]`, `[a="x"|b="x"]`,
		`[a=="x"]`, `[a~="x"]`, `[a!"x"]`, `[a^"x"]`, `[a@"x"]`, `[a!!="x"]`, `[a^!="x"]`, `[a!^="x"]`, `[a=!"x"]`, `[a! ="x"]`, `[a@!="x"]`, `[a!=="x"]`, `[a>="x"]`, `[a\="x"]`, `[!="x"]`, `[@="x"]`, `[^="x"]`,
		`[a@=]`, `[a@="z"|"y"]`, `[a@="y"|"y"]`, `[a@="y"|]`, `[a@=|"y"]`, `[a@="y"||"z"]`, `[a@="y","z"]`, `[a@="y" | "z"]`, `[a@="y""z"]`, `[a@="y"|"z]`, `[a@="y"|z]`, `[a@="y"|"z"|]`, `[a@="y"|""]`, `[a@="y"/"z"]`,
		`[a="x"|"y"]`, `[a!="x"|"y"]`, `[a^="x"|"y"]`, `[a="x"|]`, `[a=""|""]`, `[a=|"x"]`,
		`[A="x"]`, `[1="x"]`, `[_="x"]`, `[é="x"]`, `[a-="x"]`, `[a]="x"]`,
		`[a="\x"]`, `[a="\t"]`, `[a="\}`, `[a="\"]`, `[a="\`, `[a="`, `["`, `["x"]`, `[a="\\\"]`, "[a=\"\n\"]", "[a=\"\\\n\"]", "[a=\"\xff\"]", "[a=\"\xed\xa0\x80\"]", "[a@=\"x\"|\"\xff\"]", `[a='x']`, "[a=`x`]", `[a=xx"]`, `[a="x"x"]`, `[a=""x"]`, `[a=""""]`, `[a="\u0041"]`,
		`[a="` + strings.Repeat("x", 33) + `"]`, `[` + strings.Repeat("a", 17) + `="x"]`, `[a@="` + strings.Repeat("x", 33) + `"]`,
		strings.Repeat("[", 5000), `[a="` + strings.Repeat(`\`, 5001), `[` + strings.Repeat(`a="x",`, 1000), `[a@=` + strings.Repeat(`""|`, 1500) + `""]`, `[` + strings.Repeat("=", 5000) + `]`, strings.Repeat("a", 5000),
	} {
		parsesNot(t, s)
	}
	for n := range 20 {
		ms := []api.Matcher{{Kind: 3, Name: "a", Set: rising(n)}}
		if 1 <= n && n <= 8 {
			parses(t, plainPrint(ms), ms)
		} else {
			parsesNot(t, plainPrint(ms))
		}
	}
}

// P5.3: of all short texts those alone are parsed that are the print of matchers.
func TestParseOfAllShortTexts(t *testing.T) {
	are := map[string][]api.Matcher{"[]": nil}
	for _, v := range texts(3, "a", `"`, `\`, "\n", "n", "=", ",", "[", "]", "|", "!", "\xff") {
		for kind := range 4 {
			for _, name := range []string{"a", "n", "aa", "an", "na", "nn"} {
				m := api.Matcher{Kind: kind, Name: name, Value: v}
				if kind == 3 {
					m.Value, m.Set = "", []string{v}
				}
				if ms := []api.Matcher{m}; plainAll(ms) {
					are[plainPrint(ms)] = ms
				}
			}
		}
	}
	for _, piece := range texts(5, "[", "]", "a", "=", `"`, `\`, "n", "\n", ",", "|", "!", "@") {
		for _, s := range []string{piece, "[" + piece + "]", `[a="` + piece + `"]`, `[a@="` + piece + `"]`} {
			if ms, ok := are[s]; ok {
				parses(t, s, ms)
			} else {
				holds(t, s)
			}
		}
	}
}

// P5.3, P5.4: whatever matchers may be, and what comes of a print of which one byte is another one, is missing, or is one more.
func TestWhateverMatchers(t *testing.T) {
	m := made(5)
	for range 2000 {
		ms := m.matchers()
		s := plainPrint(ms)
		prints(t, ms, s)
		parses(t, s, ms)
		at, c := m.below(len(s)), m.pick()
		for _, odd := range []string{s[:at] + s[at+1:], s[:at] + c + s[at:], s[:at] + c + s[at+1:], s[:at]} {
			holds(t, odd)
		}
	}
}

// inside tells whether x stands in the memory of whole.
func inside(x, whole string) bool {
	if x == "" || whole == "" {
		return false
	}
	from, at := uintptr(unsafe.Pointer(unsafe.StringData(whole))), uintptr(unsafe.Pointer(unsafe.StringData(x)))
	return from <= at && at < from+uintptr(len(whole))
}

// R3: what is handed in stays as it was, behind its length too.
func TestHandedIn(t *testing.T) {
	set := []string{"x", "y", "spare", "a"}
	ms := []api.Matcher{{Kind: 3, Name: "b", Set: set[:2]}, {Kind: 0, Name: "a", Value: "x"}, {Kind: 9, Name: "spare"}}
	l := []api.Label{{Name: "b", Value: "x"}, {Name: "a", Value: "x"}, {Name: "spare", Value: "x"}}
	wasSet, wasMs, wasL := slices.Clone(set), slices.Clone(ms), slices.Clone(l)
	match.Check(ms[0])
	if !match.One(ms[0], l[:2]) || !match.All(ms[:2], l[:2]) {
		t.Error("One, All")
	}
	prints(t, ms[:2], `[b@="x"|"y",a="x"]`)
	printsNot(t, ms)
	if !slices.Equal(set, wasSet) || !same(ms, wasMs) || !slices.Equal(l, wasL) {
		t.Errorf("%q, %#v, %q became %q, %#v, %q", wasSet, wasMs, wasL, set, ms, l)
	}
}

// R3, R4: what is parsed shares no memory, neither with the text nor among itself, and has nothing beside what it looks for.
func TestParsedMemory(t *testing.T) {
	s := string([]byte(`[name_1="value",name_2@="v\""|"x",name_3@="v"|"w"|"x",name_4^="\\"]`))
	ms, e := match.Parse(s)
	if e != api.OK || len(ms) != 4 {
		t.Fatal(ms, e)
	}
	for _, m := range ms {
		for _, x := range append(slices.Clone(m.Set), m.Name, m.Value) {
			if inside(x, s) {
				t.Errorf("%q is shared", x)
			}
		}
		if m.Kind == 3 && m.Value != "" || m.Kind != 3 && len(m.Set) != 0 {
			t.Errorf("%#v", m)
		}
	}
	for range 8 {
		ms[1].Set = append(ms[1].Set, "over")
	}
	ms[1].Set[0] = "over"
	if !slices.Equal(ms[2].Set, []string{"v", "w", "x"}) {
		t.Errorf("%q", ms[2].Set)
	}
	parses(t, s[:len(`[name_1="value"`)]+"]", []api.Matcher{{Name: "name_1", Value: "value"}})
}

// R5: the same again, whatever was asked ahead of it.
func TestAgain(t *testing.T) {
	ms := []api.Matcher{{Kind: 1, Name: "a", Value: "x"}, {Kind: 3, Name: "b", Set: []string{"y", "z"}}}
	l := []api.Label{{Name: "a", Value: "y"}, {Name: "b", Value: "z"}}
	for range 3 {
		prints(t, ms, `[a!="x",b@="y"|"z"]`)
		parses(t, `[a!="x",b@="y"|"z"]`, ms)
		parsesNot(t, `[a!="x",b@="y"|"z"`)
		checks(t, ms[1], true)
		if !match.All(ms, l) || match.All(ms, l[:1]) {
			t.Error("All")
		}
	}
}
