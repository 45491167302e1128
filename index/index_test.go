package index_test

import (
	"maps"
	"math"
	"slices"
	"strconv"
	"strings"
	"testing"
	"unsafe"

	"strandline/api"
	"strandline/index"
	"strandline/label"
	"strandline/match"
)

// plain is the index by the chapter's words: what it is asked for it looks up in all its series.
type plain [][]api.Label

func (p plain) find(l []api.Label) (int, bool) {
	for id, x := range p {
		if slices.Equal(x, l) {
			return id, true
		}
	}
	return -1, false
}

func (p *plain) add(l []api.Label) (int, api.Errno) {
	if e := label.Check(l); e != api.OK {
		return 0, e
	}
	if id, is := p.find(l); is {
		return id, api.OK
	}
	if len(*p) == 200 {
		return 0, api.ErrSpace
	}
	*p = append(*p, slices.Clone(l))
	return len(*p) - 1, api.OK
}

func (p plain) selected(ms []api.Matcher) ([]int, api.Errno) {
	for _, m := range ms {
		if e := match.Check(m); e != api.OK {
			return nil, e
		}
	}
	var ids []int
	for id, l := range p {
		if match.All(ms, l) {
			ids = append(ids, id)
		}
	}
	return ids, api.OK
}

func (p plain) names() []string {
	seen := map[string]int{}
	for _, l := range p {
		for _, x := range l {
			seen[x.Name]++
		}
	}
	return slices.Sorted(maps.Keys(seen))
}

func (p plain) values(name string) []string {
	seen := map[string]int{}
	for _, l := range p {
		for _, x := range l {
			if x.Name == name {
				seen[x.Value]++
			}
		}
	}
	return slices.Sorted(maps.Keys(seen))
}

func plainUint(n int) string {
	if n < 128 {
		return string([]byte{byte(n)})
	}
	return string([]byte{byte(n%128 + 128), byte(n / 128)})
}

func (p plain) encode() string {
	s := plainUint(len(p))
	for _, l := range p {
		text, _ := label.Print(l)
		s += plainUint(len(text)) + text
	}
	return s
}

// made tells numbers that look like chance, and are the same each time.
type made uint64

func (m *made) below(n int) int {
	*m = *m*6364136223846793005 + 1442695040888963407
	x := uint64(*m)
	return int(((x ^ x>>29) * 0x9E3779B97F4A7C15 >> 3) % uint64(n))
}

var (
	names  = []string{"a", "a0", "aa", "b", "c", "c_"}
	values = []string{"x", "y", "xy", "z", "é", "\"", "\\", "\n", "10", "2"}
)

// labels are labels that may be, of few names and values, so that many series have one in common.
func (m *made) labels() []api.Label {
	var l []api.Label
	for _, name := range names {
		if m.below(3) == 0 {
			l = append(l, api.Label{Name: name, Value: values[m.below(len(values))]})
		}
	}
	return l
}

func (m *made) value() string {
	return append([]string{"", "q"}, values...)[m.below(2+len(values))]
}

func (m *made) matcher() api.Matcher {
	x := api.Matcher{Kind: m.below(4), Name: append([]string{"d"}, names...)[m.below(1+len(names))]}
	if x.Kind < 3 {
		x.Value = m.value()
		return x
	}
	for range 1 + m.below(5) {
		x.Set = append(x.Set, m.value())
	}
	slices.Sort(x.Set)
	x.Set = slices.Compact(x.Set)
	return x
}

// filled are an index and the plain one of the same calls.
func (m *made) filled(adds int) (*index.Index, plain) {
	x, p := index.New(), plain{}
	for range adds {
		l := m.labels()
		x.Add(l)
		p.add(l)
	}
	return x, p
}

// pick is a byte that means something in an Encode.
func (m *made) pick() string {
	const meaning = "\x00\x01\x02\x07\x80\xff{}a=\"\\,xz"
	at := m.below(len(meaning))
	return meaning[at : at+1]
}

// of has one label; no name tells no labels.
func of(name, value string) []api.Label {
	if name == "" {
		return nil
	}
	return []api.Label{{Name: name, Value: value}}
}

func full() *index.Index {
	x := index.New()
	for i := range 200 {
		x.Add(of("a", strconv.Itoa(i)))
	}
	return x
}

func adds(t *testing.T, x *index.Index, l []api.Label, id int, e api.Errno) {
	t.Helper()
	if gotID, gotE := x.Add(l); gotID != id || gotE != e {
		t.Errorf("Add(%q): %d, %d, want %d, %d", l, gotID, gotE, id, e)
	}
}

func finds(t *testing.T, x *index.Index, l []api.Label, id int, is bool) {
	t.Helper()
	if gotID, gotIs := x.Find(l); gotID != id || gotIs != is {
		t.Errorf("Find(%q): %d, %t, want %d, %t", l, gotID, gotIs, id, is)
	}
}

func selects(t *testing.T, x *index.Index, ms []api.Matcher, ids []int, e api.Errno) {
	t.Helper()
	if gotIDs, gotE := x.Select(ms); !slices.Equal(gotIDs, ids) || gotE != e {
		t.Errorf("Select(%#v): %d, %d, want %d, %d", ms, gotIDs, gotE, ids, e)
	}
}

// holds fails unless x answers in all as p does.
func holds(t *testing.T, x *index.Index, p plain) {
	t.Helper()
	if x.Len() != len(p) || x.Encode() != p.encode() {
		t.Errorf("%d, %q, want %d, %q", x.Len(), x.Encode(), len(p), p.encode())
	}
	for id, l := range p {
		if got := x.Labels(id); !slices.Equal(got, l) {
			t.Errorf("Labels(%d): %q, want %q", id, got, l)
		}
		finds(t, x, l, id, true)
	}
	for _, id := range []int{-1, -2, -len(p), len(p), len(p) + 1, 200, math.MinInt, math.MaxInt} {
		if (id < 0 || id >= len(p)) && len(x.Labels(id)) != 0 {
			t.Errorf("Labels(%d): %q", id, x.Labels(id))
		}
	}
	if !slices.Equal(x.Names(), p.names()) {
		t.Errorf("Names: %q, want %q", x.Names(), p.names())
	}
	for _, name := range append([]string{"", "d", "A", "a=", "x", "\xff", strings.Repeat("a", 1000)}, p.names()...) {
		if !slices.Equal(x.Values(name), p.values(name)) {
			t.Errorf("Values(%q): %q, want %q", name, x.Values(name), p.values(name))
		}
	}
	for _, ms := range [][]api.Matcher{nil, {{Name: "a"}}, {{Kind: 1, Name: "a"}}, {{Name: "a", Value: "x"}}, {{Kind: 1, Name: "b", Value: "x"}}, {{Name: "d"}}, {{Kind: 4, Name: "a"}}} {
		ids, e := p.selected(ms)
		selects(t, x, ms, ids, e)
	}
}

// P7.1, P7.3, P7.4: an index of no series.
func TestNew(t *testing.T) {
	x := index.New()
	if x == nil || x.Len() != 0 || x.Encode() != "\x00" || len(x.Names()) != 0 || len(x.Values("a")) != 0 || len(x.Labels(0)) != 0 {
		t.Error(x)
	}
	finds(t, x, nil, -1, false)
	finds(t, x, of("a", "x"), -1, false)
	for kind := range 4 {
		m := api.Matcher{Kind: kind, Name: "a"}
		if kind == 3 {
			m.Set = []string{"", "x"}
		}
		selects(t, x, []api.Matcher{m}, nil, api.OK)
	}
	selects(t, x, []api.Matcher{{}}, nil, api.ErrMatch)
	holds(t, x, nil)
}

// P7.1, P7.2: by hand, and the example of the chapter.
func TestByHand(t *testing.T) {
	x := index.New()
	adds(t, x, of("a", "x"), 0, api.OK)
	adds(t, x, of("a", "y"), 1, api.OK)
	adds(t, x, of("a", "x"), 0, api.OK)
	selects(t, x, []api.Matcher{{Kind: 1, Name: "a", Value: "x"}}, []int{1}, api.OK)
	adds(t, x, nil, 2, api.OK)
	adds(t, x, []api.Label{}, 2, api.OK)
	ab := []api.Label{{Name: "a", Value: "xy"}, {Name: "b", Value: "x"}}
	adds(t, x, ab, 3, api.OK)
	for i, c := range []struct {
		ms  []api.Matcher
		ids []int
	}{
		{nil, []int{0, 1, 2, 3}},
		{[]api.Matcher{}, []int{0, 1, 2, 3}},
		{[]api.Matcher{{Name: "a", Value: "x"}}, []int{0}},
		{[]api.Matcher{{Name: "a"}}, []int{2}},
		{[]api.Matcher{{Name: "a", Value: "q"}}, nil},
		{[]api.Matcher{{Name: "q", Value: "x"}}, nil},
		{[]api.Matcher{{Name: "q"}}, []int{0, 1, 2, 3}},
		{[]api.Matcher{{Kind: 1, Name: "a"}}, []int{0, 1, 3}},
		{[]api.Matcher{{Kind: 1, Name: "a", Value: "y"}}, []int{0, 2, 3}},
		{[]api.Matcher{{Kind: 1, Name: "b", Value: "x"}}, []int{0, 1, 2}},
		{[]api.Matcher{{Kind: 1, Name: "q"}}, nil},
		{[]api.Matcher{{Kind: 2, Name: "a", Value: "x"}}, []int{0, 3}},
		{[]api.Matcher{{Kind: 2, Name: "a"}}, []int{0, 1, 2, 3}},
		{[]api.Matcher{{Kind: 3, Name: "a", Set: []string{"", "y"}}}, []int{1, 2}},
		{[]api.Matcher{{Kind: 3, Name: "a", Set: []string{"q", "xy", "y"}}}, []int{1, 3}},
		{[]api.Matcher{{Kind: 2, Name: "a", Value: "x"}, {Name: "b"}}, []int{0}},
		{[]api.Matcher{{Name: "a", Value: "x"}, {Name: "a", Value: "y"}}, nil},
		{[]api.Matcher{{Name: "a", Value: "y"}, {Name: "a", Value: "y"}}, []int{1}},
		{[]api.Matcher{{Kind: 1, Name: "a", Value: "x"}, {Kind: 1, Name: "a", Value: "y"}, {Kind: 1, Name: "b"}}, []int{3}},
	} {
		ids, e := x.Select(c.ms)
		if !slices.Equal(ids, c.ids) || e != api.OK {
			t.Errorf("%d: %d, %d", i, ids, e)
		}
	}
	if x.Len() != 4 || !slices.Equal(x.Labels(3), ab) || len(x.Labels(2)) != 0 || len(x.Labels(4)) != 0 {
		t.Error(x.Len(), x.Labels(3), x.Labels(2), x.Labels(4))
	}
	if !slices.Equal(x.Names(), []string{"a", "b"}) || !slices.Equal(x.Values("a"), []string{"x", "xy", "y"}) || !slices.Equal(x.Values("b"), []string{"x"}) {
		t.Errorf("%q, %q, %q", x.Names(), x.Values("a"), x.Values("b"))
	}
	const want = "\x04" + "\x07" + `{a="x"}` + "\x07" + `{a="y"}` + "\x02{}" + "\x0e" + `{a="xy",b="x"}`
	if x.Encode() != want {
		t.Errorf("%q", x.Encode())
	}
}

// bad are labels that may not be.
func bad() [][]api.Label {
	many := make([]api.Label, 9)
	for i := range many {
		many[i] = api.Label{Name: string(rune('a' + i)), Value: "x"}
	}
	return [][]api.Label{
		{{}},
		of("A", "x"),
		of("a", ""),
		of("a", "\xff"),
		of("a", strings.Repeat("x", 33)),
		of(strings.Repeat("a", 17), "x"),
		{{Name: "b", Value: "x"}, {Name: "a", Value: "x"}},
		{{Name: "a", Value: "x"}, {Name: "a", Value: "x"}},
		{{Name: "a", Value: "x"}, {Name: "a", Value: "y"}},
		{{Name: "a", Value: "x"}, {Name: "c"}},
		{{Name: "a", Value: "x"}, {}},
		many,
	}
}

// P7.1, R2: labels that may not be are added nowhere and found nowhere, and change nothing.
func TestWhatMayNotBe(t *testing.T) {
	x, p := index.New(), plain{}
	for range 2 {
		for _, l := range bad() {
			adds(t, x, l, 0, api.ErrLabel)
			finds(t, x, l, -1, false)
			holds(t, x, p)
		}
		for _, l := range [][]api.Label{of("a", "x"), {{Name: "a", Value: "x"}, {Name: "b", Value: "x"}}, nil} {
			id, e := p.add(l)
			adds(t, x, l, id, e)
			holds(t, x, p)
		}
	}
}

// P7.1: MaxSeries series and none more; those that there are are told nonetheless, and labels that may not be are told first.
func TestFull(t *testing.T) {
	x, p := index.New(), plain{}
	for i := range 200 {
		adds(t, x, of("a", strconv.Itoa(i)), i, api.OK)
		p.add(of("a", strconv.Itoa(i)))
		if x.Len() != i+1 {
			t.Fatal(x.Len())
		}
	}
	for range 2 {
		adds(t, x, of("a", "200"), 0, api.ErrSpace)
		adds(t, x, of("z", "0"), 0, api.ErrSpace)
		adds(t, x, nil, 0, api.ErrSpace)
		adds(t, x, of("a", ""), 0, api.ErrLabel)
		for i := range 200 {
			adds(t, x, of("a", strconv.Itoa(i)), i, api.OK)
		}
		finds(t, x, of("a", "200"), -1, false)
		finds(t, x, of("z", "0"), -1, false)
		finds(t, x, nil, -1, false)
		holds(t, x, p)
	}
}

// P7.1: a series is known by just its labels, by none fewer, none more, and no others.
func TestFind(t *testing.T) {
	ab := []api.Label{{Name: "a", Value: "x"}, {Name: "b", Value: "y"}}
	near := [][]api.Label{
		nil, of("a", "x"), of("b", "y"), of("a", "y"), of("b", "x"), of("a", "xy"), of("ab", "xy"), of("a", "x\"b=\"y"), of("c", "x"),
		{{Name: "a", Value: "y"}, {Name: "b", Value: "x"}},
		{{Name: "a", Value: "x"}, {Name: "b", Value: "yy"}},
		{{Name: "a", Value: "x"}, {Name: "c", Value: "y"}},
		{{Name: "a", Value: "x"}, {Name: "b", Value: "y"}, {Name: "c", Value: "z"}},
	}
	x := index.New()
	adds(t, x, ab, 0, api.OK)
	for _, l := range near {
		finds(t, x, l, -1, false)
	}
	finds(t, x, []api.Label{ab[1], ab[0]}, -1, false)
	finds(t, x, []api.Label{ab[0], ab[0], ab[1]}, -1, false)
	for i, l := range near {
		adds(t, x, l, i+1, api.OK)
	}
	for i, l := range near {
		finds(t, x, l, i+1, true)
		adds(t, x, l, i+1, api.OK)
	}
	finds(t, x, ab, 0, true)
	if x.Len() != len(near)+1 {
		t.Error(x.Len())
	}
}

// P7.1 to P7.5: whatever is added, twice and more often too, all is as the plain index has it, at each time; ids stay.
func TestWhateverIsAdded(t *testing.T) {
	m := made(1)
	for range 5 {
		x, p := index.New(), plain{}
		for range 150 {
			l := m.labels()
			id, is := p.find(l)
			finds(t, x, l, id, is)
			id, e := p.add(l)
			adds(t, x, l, id, e)
			finds(t, x, l, id, true)
			holds(t, x, p)
		}
	}
}

// P7.2: whatever matchers, of whatever series.
func TestSelect(t *testing.T) {
	m := made(2)
	for _, count := range []int{0, 1, 2, 10, 100, 300} {
		x, p := m.filled(count)
		for range 1000 {
			var ms []api.Matcher
			for range m.below(4) {
				ms = append(ms, m.matcher())
			}
			ids, e := p.selected(ms)
			selects(t, x, ms, ids, e)
		}
	}
}

// P7.2: each Kind of each value, alone.
func TestSelectByOne(t *testing.T) {
	m := made(3)
	x, p := m.filled(120)
	for _, name := range append([]string{"d", "a1"}, names...) {
		for _, v := range append([]string{"", "q", "1"}, values...) {
			for kind := range 3 {
				ms := []api.Matcher{{Kind: kind, Name: name, Value: v}}
				ids, _ := p.selected(ms)
				selects(t, x, ms, ids, api.OK)
			}
			for _, set := range [][]string{{v}, {"", v}, {v, "é\n"}} {
				slices.Sort(set)
				ms := []api.Matcher{{Kind: 3, Name: name, Set: slices.Compact(set)}}
				ids, _ := p.selected(ms)
				selects(t, x, ms, ids, api.OK)
			}
		}
	}
}

// P7.2: as many matchers as are handed in; there is no most. One that may not be, at each place, behind one that matches nothing too.
func TestSelectByMany(t *testing.T) {
	x := index.New()
	adds(t, x, of("a", "x"), 0, api.OK)
	adds(t, x, of("a", "y"), 1, api.OK)
	adds(t, x, of("b", "x"), 2, api.OK)
	for _, n := range []int{1, 2, 8, 9, 20, 300} {
		var ms []api.Matcher
		for i := range n {
			ms = append(ms, api.Matcher{Kind: 1, Name: "a", Value: strconv.Itoa(i)})
		}
		selects(t, x, ms, []int{0, 1, 2}, api.OK)
		for _, at := range []int{0, n / 2, n - 1} {
			part := slices.Clone(ms)
			part[at] = api.Matcher{Name: "a", Value: "y"}
			selects(t, x, part, []int{1}, api.OK)
			for _, odd := range []api.Matcher{{}, {Kind: 4, Name: "a"}, {Kind: -1, Name: "a"}, {Name: "A"}, {Kind: 3, Name: "a"}, {Name: "a", Value: "\xff"}, {Kind: 3, Name: "a", Set: []string{"y", "x"}}, {Name: "a", Value: "x", Set: []string{"x"}}} {
				part[at] = odd
				selects(t, x, part, nil, api.ErrMatch)
				selects(t, x, append([]api.Matcher{{Name: "a", Value: "q"}}, part...), nil, api.ErrMatch)
				selects(t, index.New(), part, nil, api.ErrMatch)
			}
		}
	}
	if x.Len() != 3 {
		t.Error(x.Len())
	}
}

// P7.3: names and values rise as texts, each once, however they came.
func TestNamesAndValues(t *testing.T) {
	x := index.New()
	for i, l := range [][]api.Label{
		{{Name: "z", Value: "2"}}, {{Name: "a_", Value: "10"}}, {{Name: "aa", Value: "é"}}, {{Name: "a0", Value: "z"}}, {{Name: "a", Value: "z"}}, {{Name: "z", Value: "10"}},
		{{Name: "a", Value: "A"}, {Name: "z", Value: "10"}}, {{Name: "a", Value: "z"}, {Name: "z", Value: "é"}}, {{Name: "z", Value: "\uffff"}}, {{Name: "z", Value: "\U00010000"}},
	} {
		adds(t, x, l, i, api.OK)
	}
	if want := []string{"a", "a0", "a_", "aa", "z"}; !slices.Equal(x.Names(), want) {
		t.Errorf("%q", x.Names())
	}
	for name, want := range map[string][]string{"z": {"10", "2", "é", "\uffff", "\U00010000"}, "a": {"A", "z"}, "a_": {"10"}, "": nil, "b": nil, "z ": nil, "10": nil} {
		if !slices.Equal(x.Values(name), want) {
			t.Errorf("%q: %q", name, x.Values(name))
		}
	}
}

func decodes(t *testing.T, s string, p plain) {
	t.Helper()
	x, e := index.Decode(s)
	if x == nil || e != api.OK {
		t.Fatalf("Decode(%q): %d", s, e)
	}
	holds(t, x, p)
}

func decodesNot(t *testing.T, s string) {
	t.Helper()
	if x, e := index.Decode(s); x != nil || e != api.ErrForm {
		t.Errorf("Decode(%q): %v, %d", s, x, e)
	}
}

// P7.4: by hand, and what is none, though it looks like it.
func TestDecodeByHand(t *testing.T) {
	const a, b = "\x07" + `{a="x"}`, "\x07" + `{a="y"}`
	decodes(t, "\x00", nil)
	decodes(t, "\x01\x02{}", plain{nil})
	decodes(t, "\x02"+b+a, plain{of("a", "y"), of("a", "x")})
	decodes(t, "\x03"+a+"\x02{}"+b, plain{of("a", "x"), nil, of("a", "y")})
	for _, s := range []string{
		"", "\x01", "\x02", "\xff", "\x80", "\x80\x00", "\x81\x00" + a, "\x00\x00", "\x00" + a, "\x00 ", " ",
		a, "\x01" + a + b, "\x02" + a, "\x03" + a + b, "\x02" + a + a, "\x03" + a + b + a, "\x02\x02{}\x02{}", "\x01" + a + "\x00", "\x01" + a + "\x80", "\x02" + a + a + b, "\x02" + a + b + a,
		"\x01\x87\x00" + `{a="x"}`, "\x01\x06" + `{a="x"}`, "\x01\x08" + `{a="x"}`, "\x01\x00", "\x01\x01{", "\x01\x01}", "\x01\x03{} ", "\x01\x03 {}", "\x01\x03{,}",
		"\x01\x07" + `{A="x"}`, "\x01\x06" + `{a=""}`, "\x01\x07" + `{a='x'}`, "\x01\x07" + "{a=\"\n\"}", "\x01\x07" + "{a=\"\xff\"}", "\x01\x08" + `{a="\x"}`, "\x01\x07" + `[a="x"]`, "\x01\x08" + `{a="x",}`, "\x01\x08" + `{a="x"}}`,
		"\x01\x0d" + `{b="x",a="y"}`, "\x01\x0d" + `{a="x",a="x"}`, "\x01\x0d" + `{a="x",a="y"}`, "\x01\x0d" + `{a="x";b="y"}`,
		"\xff\xff\xff\xff\xff\xff\xff\xff\xff\x01" + a, "\xff\xff\xff\xff\xff\xff\xff\xff\xff\x7f", strings.Repeat("\xff", 1000), strings.Repeat("\x80", 5000), strings.Repeat("\x01", 5000), strings.Repeat("\x00", 5000),
		"\x01\xff\xff\xff\xff\xff\xff\xff\xff\xff\x01" + `{a="x"}`, "\x80\x80\x80\x80\x10" + strings.Repeat(a, 500),
	} {
		decodesNot(t, s)
	}
	decodes(t, "\x01\x0d"+`{a="x",b="y"}`, plain{{{Name: "a", Value: "x"}, {Name: "b", Value: "y"}}})
}

// P7.4: each count of series that may be; one more, one fewer, and more than may be are none.
func TestDecodeOfEachCount(t *testing.T) {
	rest := ""
	var p plain
	for n := range 210 {
		s := plainUint(n) + rest
		if n <= 200 {
			x, e := index.Decode(s)
			if x == nil || e != api.OK || x.Encode() != s || x.Len() != n {
				t.Errorf("%d: %d", n, e)
			}
		} else {
			decodesNot(t, s)
		}
		if n > 0 {
			decodesNot(t, plainUint(n-1)+rest)
		}
		decodesNot(t, plainUint(n+1)+rest)
		p = append(p, of("a", strconv.Itoa(n)))
		rest = p.encode()[len(plainUint(n+1)):]
	}
	var most plain
	for i := range 200 {
		var l []api.Label
		for k := range 8 {
			l = append(l, api.Label{Name: strings.Repeat(string(rune('a'+k)), 16), Value: strings.Repeat(`"`, 29) + strconv.Itoa(100+i)})
		}
		most = append(most, l)
	}
	decodes(t, most.encode(), most)
}

// P7.4: what was encoded is decoded; a piece of it, or with a byte that is another one, missing or one more, it is none, unless it is just what its index's Encode is.
func TestDecodeOfWhatever(t *testing.T) {
	m := made(4)
	for range 60 {
		x, p := m.filled(m.below(12))
		s := x.Encode()
		if s != p.encode() {
			t.Errorf("%q, want %q", s, p.encode())
		}
		decodes(t, s, p)
		for at := range len(s) {
			decodesNot(t, s[:at])
			c := m.pick()
			for _, odd := range []string{s[:at] + s[at+1:], s[:at] + c + s[at:], s[:at] + c + s[at+1:]} {
				y, e := index.Decode(odd)
				if e == api.OK && y.Encode() != odd || e != api.OK && (e != api.ErrForm || y != nil) {
					t.Errorf("Decode(%q): %d", odd, e)
				}
			}
		}
		decodesNot(t, s+"\x00")
		decodesNot(t, s+s)
	}
}

// P7.5: an index that is decoded goes on as the one that was encoded, to the last series.
func TestGoesOn(t *testing.T) {
	m := made(5)
	x, p := m.filled(20)
	for range 25 {
		y, e := index.Decode(x.Encode())
		if e != api.OK {
			t.Fatal(e)
		}
		holds(t, y, p)
		for range 20 {
			l := m.labels()
			id, e := p.add(l)
			adds(t, x, l, id, e)
			adds(t, y, l, id, e)
			ms := []api.Matcher{m.matcher(), m.matcher()}
			ids, e := p.selected(ms)
			selects(t, x, ms, ids, e)
			selects(t, y, ms, ids, e)
		}
		holds(t, x, p)
		holds(t, y, p)
		x = y
	}
	if x.Len() != 200 {
		t.Error(x.Len())
	}
	y, _ := index.Decode(full().Encode())
	adds(t, y, of("b", "x"), 0, api.ErrSpace)
	adds(t, y, of("a", "7"), 7, api.OK)
}

// R3: two indexes have nothing in common, neither when they are new, nor when they are decoded of one text.
func TestTwoIndexes(t *testing.T) {
	x, y := index.New(), index.New()
	adds(t, x, of("a", "x"), 0, api.OK)
	holds(t, y, nil)
	adds(t, y, of("b", "x"), 0, api.OK)
	holds(t, x, plain{of("a", "x")})
	holds(t, y, plain{of("b", "x")})
	s := x.Encode()
	v, _ := index.Decode(s)
	w, _ := index.Decode(s)
	adds(t, v, of("c", "x"), 1, api.OK)
	holds(t, w, plain{of("a", "x")})
	holds(t, x, plain{of("a", "x")})
}

// inside tells whether s stands in the memory of whole.
func inside(s, whole string) bool {
	if s == "" || whole == "" {
		return false
	}
	from, at := uintptr(unsafe.Pointer(unsafe.StringData(whole))), uintptr(unsafe.Pointer(unsafe.StringData(s)))
	return from <= at && at < from+uintptr(len(whole))
}

// R3: what is handed in is neither changed nor kept, nor is what lies behind its length.
func TestHandedIn(t *testing.T) {
	text := []byte("abc")
	name := unsafe.String(&text[0], 1)
	value := unsafe.String(&text[1], 2)
	l := []api.Label{{Name: name, Value: value}, {Name: "spare", Value: "x"}}
	x := index.New()
	adds(t, x, l[:1], 0, api.OK)
	finds(t, x, l[:1], 0, true)
	if l[1] != (api.Label{Name: "spare", Value: "x"}) || l[0].Name != "a" || l[0].Value != "bc" {
		t.Errorf("%q", l)
	}
	copy(text, "xyz") // the texts that were handed in are others now
	l[0], l[1] = api.Label{}, api.Label{}
	holds(t, x, plain{of("a", "bc")})
	adds(t, x, of("a", "bc"), 0, api.OK)
	adds(t, x, of("x", "yz"), 1, api.OK)

	set := []string{"bc", "yz", "spare"}
	ms := []api.Matcher{{Kind: 3, Name: "a", Set: set[:2]}, {Kind: 1, Name: "b", Value: "x"}, {Kind: 9, Name: "spare"}}
	selects(t, x, ms[:2], []int{0}, api.OK)
	if !slices.Equal(set, []string{"bc", "yz", "spare"}) || len(ms[0].Set) != 2 || ms[1].Value != "x" || ms[2].Kind != 9 || ms[2].Name != "spare" {
		t.Errorf("%q, %#v", set, ms)
	}

	code := []byte(x.Encode())
	y, e := index.Decode(unsafe.String(&code[0], len(code)))
	if e != api.OK {
		t.Fatal(e)
	}
	clear(code)
	holds(t, y, plain{of("a", "bc"), of("x", "yz")})
}

// R3: an answer is new memory: it may be written over, its spare room too, and shares no text with another one.
func TestAnswersAreNew(t *testing.T) {
	m := made(6)
	x, p := m.filled(60)
	for range 2 {
		for _, ms := range [][]api.Matcher{nil, {{Name: "a", Value: "x"}}, {{Kind: 1, Name: "a", Value: "x"}}, {{Name: "d"}}, {{Name: "a"}}} {
			ids, _ := x.Select(ms)
			ids = ids[:cap(ids)]
			for i := range ids {
				ids[i] = -7
			}
		}
		for id := range p {
			l := x.Labels(id)
			l = l[:cap(l)]
			clear(l)
		}
		for _, texts := range [][]string{x.Names(), x.Values("a"), x.Values("b")} {
			texts = texts[:cap(texts)]
			clear(texts)
		}
		holds(t, x, p)
	}
	for id := range p {
		for i, l := range x.Labels(id) {
			if again := x.Labels(id)[i]; inside(l.Name, again.Name) || inside(l.Value, again.Value) {
				t.Errorf("Labels(%d) shares %q", id, l)
			}
		}
	}
	for i, name := range x.Names() {
		if inside(name, x.Names()[i]) {
			t.Errorf("Names shares %q", name)
		}
		for k, v := range x.Values(name) {
			if inside(v, x.Values(name)[k]) {
				t.Errorf("Values(%q) shares %q", name, v)
			}
		}
	}
}

// R5: the same again, whatever was asked ahead of it, and of another index of the same calls.
func TestAgain(t *testing.T) {
	for range 20 {
		m := made(7)
		x, p := m.filled(300)
		for range 3 {
			ms := []api.Matcher{{Kind: 2, Name: "a", Value: "x"}, {Kind: 1, Name: "b", Value: "y"}}
			ids, e := p.selected(ms)
			selects(t, x, ms, ids, e)
			holds(t, x, p)
		}
	}
}
