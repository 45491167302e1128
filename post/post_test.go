package post_test

import (
	"fmt"
	"math"
	"slices"
	"testing"
	"unsafe"

	"strandline/post"
)

// universe rises; its lists are all that are tried together.
var universe = []int{math.MinInt, -2, 0, 1, 199, math.MaxInt}

// outside stand between those of universe, and beside them.
var outside = []int{math.MinInt + 1, -1, 2, 198, 200, math.MaxInt - 1}

// plainIn goes through all of a.
func plainIn(a []int, n int) bool {
	in := false
	for _, x := range a {
		in = in || x == n
	}
	return in
}

// plainThose are those of some lists, rising, that keep tells true of, each once.
func plainThose(keep func(n int) bool, lists ...[]int) []int {
	var l []int
	for _, a := range lists {
		for _, n := range a {
			if keep(n) && !plainIn(l, n) {
				l = append(l, n)
			}
		}
	}
	slices.Sort(l)
	return l
}

func plainAnd(a, b []int) []int {
	return plainThose(func(n int) bool { return plainIn(a, n) && plainIn(b, n) }, a, b)
}

func plainOr(a, b []int) []int {
	return plainThose(func(n int) bool { return true }, a, b)
}

func plainNot(a, b []int) []int {
	return plainThose(func(n int) bool { return !plainIn(b, n) }, a)
}

func plainUnion(lists [][]int) []int {
	return plainThose(func(n int) bool { return true }, lists...)
}

// partsOf are all lists that rise of those in whole.
func partsOf(whole []int) [][]int {
	var all [][]int
	for bits := range 1 << len(whole) {
		var l []int
		for i, n := range whole {
			if bits>>i&1 == 1 {
				l = append(l, n)
			}
		}
		all = append(all, l)
	}
	return all
}

// anyLists are all lists of some length at most of those in whole, in whatever order.
func anyLists(most int, whole ...int) [][]int {
	all, last := [][]int{nil}, [][]int{nil}
	for range most {
		var next [][]int
		for _, l := range last {
			for _, n := range whole {
				next = append(next, append(slices.Clone(l), n))
			}
		}
		all, last = append(all, next...), next
	}
	return all
}

// made tells numbers that look like chance, and are the same each time.
type made uint64

func (m *made) below(n int) int {
	*m = *m*6364136223846793005 + 1442695040888963407
	x := uint64(*m)
	return int(((x ^ x>>29) * 0x9E3779B97F4A7C15 >> 3) % uint64(n))
}

// list rises, from about low on, by steps of most at most.
func (m *made) list(count, low, most int) []int {
	var l []int
	for range count {
		low += 1 + m.below(most)
		l = append(l, low)
	}
	return l
}

// tells fails unless an answer is what it should be.
func tells(t *testing.T, of string, got, want []int) {
	t.Helper()
	if !slices.Equal(got, want) {
		t.Errorf("%s tells %d, not %d", of, got, want)
	}
}

// holds fails unless two lists come to what the plain ones tell.
func holds(t *testing.T, a, b []int) {
	t.Helper()
	of := fmt.Sprintf(" of %d, %d", a, b)
	tells(t, "And"+of, post.And(a, b), plainAnd(a, b))
	tells(t, "Or"+of, post.Or(a, b), plainOr(a, b))
	tells(t, "Not"+of, post.Not(a, b), plainNot(a, b))
	tells(t, "Union"+of, post.Union([][]int{a, b}), plainOr(a, b))
}

// P6.1: by hand.
func TestRisesByHand(t *testing.T) {
	for _, l := range [][]int{
		nil, {}, {0}, {-7}, {math.MinInt}, {math.MaxInt},
		{0, 1}, {-1, 0}, {1, 3, 5}, {-5, -3, -1}, {math.MinInt, math.MaxInt}, {math.MinInt, math.MinInt + 1, -1, 0, math.MaxInt - 1, math.MaxInt},
	} {
		if !post.Rises(l) {
			t.Errorf("%d rises", l)
		}
	}
	for _, l := range [][]int{
		{0, 0}, {1, 1}, {1, 0}, {0, -1}, {-1, -1}, {math.MaxInt, math.MinInt}, {math.MaxInt, math.MaxInt}, {math.MinInt, math.MinInt},
		{1, 2, 2}, {1, 1, 2}, {1, 2, 1}, {2, 1, 3}, {1, 3, 2}, {1, 2, 3, 4, 4}, {1, 5, 2, 6}, {3, 2, 1},
	} {
		if post.Rises(l) {
			t.Errorf("%d does not rise", l)
		}
	}
}

// P6.1: all short lists; those alone rise that are a part of what rises.
func TestRises(t *testing.T) {
	whole := []int{math.MinInt, -1, 0, math.MaxInt}
	rising := partsOf(whole)
	for _, l := range anyLists(5, whole...) {
		want := slices.ContainsFunc(rising, func(r []int) bool { return slices.Equal(r, l) })
		if post.Rises(l) != want {
			t.Errorf("Rises of %d is not %t", l, want)
		}
	}
}

// P6.1: one that is not above the one ahead, at each place of a long list.
func TestRisesToTheEnd(t *testing.T) {
	m := made(1)
	for _, count := range []int{2, 3, 100, 300} {
		l := m.list(count, -500, 9)
		if !post.Rises(l) {
			t.Errorf("%d rises", l)
		}
		for i := 1; i < count; i++ {
			for _, less := range []int{0, 1} {
				x := slices.Clone(l)
				x[i] = x[i-1] - less
				if post.Rises(x) {
					t.Errorf("%d at %d does not rise", x, i)
				}
			}
		}
	}
}

// P6.2: by hand, and the example of the chapter.
func TestByHand(t *testing.T) {
	for _, c := range []struct{ a, b, and, or, not []int }{
		{[]int{1, 3, 5}, []int{3, 4}, []int{3}, []int{1, 3, 4, 5}, []int{1, 5}},
		{[]int{3, 4}, []int{1, 3, 5}, []int{3}, []int{1, 3, 4, 5}, []int{4}},
		{nil, nil, nil, nil, nil},
		{[]int{0}, nil, nil, []int{0}, []int{0}},
		{nil, []int{0}, nil, []int{0}, nil},
		{[]int{0}, []int{0}, []int{0}, []int{0}, nil},
		{[]int{1, 2}, []int{3, 4}, nil, []int{1, 2, 3, 4}, []int{1, 2}},
		{[]int{3, 4}, []int{1, 2}, nil, []int{1, 2, 3, 4}, []int{3, 4}},
		{[]int{1, 3, 5}, []int{2, 4}, nil, []int{1, 2, 3, 4, 5}, []int{1, 3, 5}},
		{[]int{1, 2, 3}, []int{1, 2, 3}, []int{1, 2, 3}, []int{1, 2, 3}, nil},
		{[]int{1, 2, 3}, []int{2}, []int{2}, []int{1, 2, 3}, []int{1, 3}},
		{[]int{-3, -1}, []int{-2, -1, 0}, []int{-1}, []int{-3, -2, -1, 0}, []int{-3}},
		{[]int{math.MinInt, 0}, []int{0, math.MaxInt}, []int{0}, []int{math.MinInt, 0, math.MaxInt}, []int{math.MinInt}},
		{[]int{math.MinInt, math.MaxInt}, []int{math.MinInt, math.MaxInt}, []int{math.MinInt, math.MaxInt}, []int{math.MinInt, math.MaxInt}, nil},
	} {
		of := fmt.Sprintf(" of %d, %d", c.a, c.b)
		tells(t, "And"+of, post.And(c.a, c.b), c.and)
		tells(t, "Or"+of, post.Or(c.a, c.b), c.or)
		tells(t, "Not"+of, post.Not(c.a, c.b), c.not)
	}
}

// P6.2: all lists of six integers, the lowest and the highest one of all among them.
func TestAllLists(t *testing.T) {
	all := partsOf(universe)
	for _, a := range all {
		for _, b := range all {
			holds(t, a, b)
		}
	}
}

// P6.2: long lists that have much in common, and little.
func TestLongLists(t *testing.T) {
	m := made(2)
	for _, most := range []int{1, 2, 3, 20, 1 << 40} {
		for range 40 {
			holds(t, m.list(m.below(300), -m.below(200), most), m.list(m.below(300), -m.below(200), most))
		}
	}
}

// P6.2: those that are in a list, and those beside each of them.
func TestHas(t *testing.T) {
	for _, a := range partsOf(universe) {
		for _, n := range slices.Concat(universe, outside) {
			if post.Has(a, n) != plainIn(a, n) {
				t.Errorf("Has of %d, %d is not %t", a, n, plainIn(a, n))
			}
		}
	}
	m := made(3)
	for count := range 300 {
		a := m.list(count, -200, 3)
		for n := -205; n < 405; n++ {
			if post.Has(a, n) != plainIn(a, n) {
				t.Fatalf("Has of %d, %d is not %t", a, n, plainIn(a, n))
			}
		}
	}
}

// P6.2: by hand.
func TestUnionByHand(t *testing.T) {
	for _, c := range []struct {
		lists [][]int
		want  []int
	}{
		{nil, nil},
		{[][]int{}, nil},
		{[][]int{nil}, nil},
		{[][]int{nil, {}, nil}, nil},
		{[][]int{{0}}, []int{0}},
		{[][]int{{1, 2}}, []int{1, 2}},
		{[][]int{{1, 2}, {1, 2}}, []int{1, 2}},
		{[][]int{nil, {1}, nil}, []int{1}},
		{[][]int{{5}, {1, 9}, nil, {1, 2, 3}}, []int{1, 2, 3, 5, 9}},
		{[][]int{{3}, {2}, {1}}, []int{1, 2, 3}},
		{[][]int{{-1}, {math.MaxInt}, {math.MinInt}, {0}, {-1, 0}}, []int{math.MinInt, -1, 0, math.MaxInt}},
	} {
		tells(t, fmt.Sprintf("Union of %d", c.lists), post.Union(c.lists), c.want)
	}
}

// P6.2: up to three of all lists of four integers, in whatever order.
func TestUnionOfAll(t *testing.T) {
	all := partsOf([]int{math.MinInt, -1, 0, math.MaxInt})
	for _, a := range all {
		tells(t, fmt.Sprintf("Union of %d", a), post.Union([][]int{a}), a)
		for _, b := range all {
			for _, c := range all {
				lists := [][]int{a, b, c}
				tells(t, fmt.Sprintf("Union of %d", lists), post.Union(lists), plainUnion(lists))
			}
		}
	}
}

// P6.2: each count of lists; the one that alone has an integer is at each place.
func TestUnionOfMany(t *testing.T) {
	m := made(4)
	for count := range 40 {
		var lists [][]int
		for range count {
			lists = append(lists, m.list(m.below(9), m.below(20), 4))
		}
		want := plainUnion(lists)
		tells(t, fmt.Sprintf("Union of %d", lists), post.Union(lists), want)
		for at := range lists {
			more := slices.Clone(lists)
			more[at] = append(slices.Clone(lists[at]), 1000)
			tells(t, fmt.Sprintf("Union of %d", more), post.Union(more), append(slices.Clone(want), 1000))
		}
	}
	var ones [][]int
	for n := range 500 {
		ones = append(ones, []int{499 - n})
	}
	tells(t, "Union of 500", post.Union(ones), plainUnion(ones))
}

// P6.2: answers rise.
func TestAnswersRise(t *testing.T) {
	m := made(5)
	for range 300 {
		a, b, c := m.list(m.below(30), 0, 3), m.list(m.below(30), 0, 3), m.list(m.below(30), 0, 3)
		for _, l := range [][]int{post.And(a, b), post.Or(a, b), post.Not(a, b), post.Union([][]int{a, b, c})} {
			if !post.Rises(l) {
				t.Errorf("%d, of %d, %d, %d", l, a, b, c)
			}
		}
	}
}

// P6.3: what follows for sets.
func TestSets(t *testing.T) {
	all := partsOf(universe[1:5])
	for _, a := range all {
		tells(t, "And of a list and itself", post.And(a, a), a)
		tells(t, "Or of a list and itself", post.Or(a, a), a)
		tells(t, "Not of a list and itself", post.Not(a, a), nil)
		for _, b := range all {
			and, not := post.And(a, b), post.Not(a, b)
			of := fmt.Sprintf(" of %d, %d", a, b)
			tells(t, "And, Not"+of, post.Or(and, not), a)
			tells(t, "what And and Not have in common"+of, post.And(and, not), nil)
			if len(and)+len(not) != len(a) {
				t.Errorf("And, Not%s are %d, %d", of, and, not)
			}
			tells(t, "And turned over"+of, post.And(b, a), and)
			tells(t, "Or turned over"+of, post.Or(b, a), post.Or(a, b))
			tells(t, "Or by Not"+of, post.Or(post.Not(a, b), b), post.Or(a, b))
			for _, c := range all {
				tells(t, "And over Or"+of, post.And(a, post.Or(b, c)), post.Or(and, post.And(a, c)))
				tells(t, "Not of Or"+of, post.Not(a, post.Or(b, c)), post.Not(not, c))
			}
		}
	}
}

// P6.2, R1: of lists that don't rise a call ends, and that is all.
func TestListsThatDontRise(t *testing.T) {
	all := anyLists(4, math.MinInt, 0, math.MaxInt)
	for _, a := range all {
		post.Has(a, 0)
		post.Has(a, 1)
		post.Union([][]int{a})
		for _, b := range all {
			post.And(a, b)
			post.Or(a, b)
			post.Not(a, b)
			post.Union([][]int{a, b, a})
		}
	}
}

// share tells whether two lists have memory in common, spare room too.
func share(a, b []int) bool {
	if cap(a) == 0 || cap(b) == 0 {
		return false
	}
	fromA, fromB := uintptr(unsafe.Pointer(unsafe.SliceData(a))), uintptr(unsafe.Pointer(unsafe.SliceData(b)))
	word := unsafe.Sizeof(0)
	return fromA < fromB+uintptr(cap(b))*word && fromB < fromA+uintptr(cap(a))*word
}

// R3: what is handed in stays as it was, behind its length too, and no answer has memory of it, or of another one.
func TestMemory(t *testing.T) {
	for _, count := range []int{0, 1, 2, 3} {
		wholeA, wholeB := []int{1, 3, 5, 7, 9, 2}, []int{3, 4, 5, 11, 8, 0}
		wasA, wasB := slices.Clone(wholeA), slices.Clone(wholeB)
		for _, c := range [][2][]int{{wholeA[:count], wholeB[:count]}, {wholeA[:count], nil}, {nil, wholeB[:count]}, {wholeA[:count], wholeA[:count]}} {
			a, b := c[0], c[1]
			lists := [][]int{a, b, nil, {99}}
			was := slices.Clone(lists)
			answers := [][]int{post.And(a, b), post.Or(a, b), post.Not(a, b), post.Union(lists[:2]), post.Union(lists[:1]), post.Union(lists[1:2]), post.Union(lists)}
			for i, l := range answers {
				for _, other := range slices.Concat(answers[:i], lists, [][]int{wholeA, wholeB}) {
					if share(l, other) {
						t.Errorf("answer %d of %d, %d shares memory", i, a, b)
					}
				}
				l = l[:cap(l)]
				for n := range l {
					l[n] = -1
				}
			}
			for i := range lists {
				if len(lists[i]) != len(was[i]) || share(lists[i], was[i]) != (cap(was[i]) > 0) {
					t.Errorf("list %d of %d is another one", i, was)
				}
			}
		}
		post.Has(wholeA[:count], 3)
		post.Rises(wholeA[:count])
		if !slices.Equal(wholeA, wasA) || !slices.Equal(wholeB, wasB) {
			t.Errorf("%d, %d became %d, %d", wasA, wasB, wholeA, wholeB)
		}
	}
}

// R5: the same again, whatever was asked ahead of it.
func TestAgain(t *testing.T) {
	a, b := []int{1, 3, 5}, []int{3, 4}
	for range 3 {
		tells(t, "And", post.And(a, b), []int{3})
		tells(t, "Or", post.Or(a, b), []int{1, 3, 4, 5})
		tells(t, "Not", post.Not(a, b), []int{1, 5})
		tells(t, "Union", post.Union([][]int{b, a, {0}}), []int{0, 1, 3, 4, 5})
		if !post.Has(a, 3) || post.Has(b, 5) || !post.Rises(a) || post.Rises([]int{3, 3}) {
			t.Error("Has, Rises")
		}
		holds(t, b, a)
	}
}
