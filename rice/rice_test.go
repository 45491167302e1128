package rice_test

import (
	"math"
	"slices"
	"strings"
	"testing"
	"unsafe"

	"strandline/api"
	"strandline/rice"
)

// plainBits are the lowest count bits of n as digits, the highest one first.
func plainBits(n uint64, count int) string {
	s := ""
	for range count {
		s = string(rune('0'+n%2)) + s
		n /= 2
	}
	return s
}

// plainRice is P2.1's words by division alone.
func plainRice(n uint64, k int) string {
	power := uint64(1)
	for range k {
		power *= 2
	}
	if n/power < 24 {
		return strings.Repeat("1", int(n/power)) + "0" + plainBits(n%power, k)
	}
	return strings.Repeat("1", 24) + plainBits(n, 64)
}

// plainBytes are eight digits a byte, filled up with 0.
func plainBytes(digits string) string {
	for len(digits)%8 != 0 {
		digits += "0"
	}
	var b []byte
	for at := 0; at < len(digits); at += 8 {
		b = append(b, byte(plainNumber(digits[at:at+8])))
	}
	return string(b)
}

func plainNumber(digits string) uint64 {
	n := uint64(0)
	for _, d := range digits {
		n = 2*n + uint64(d-'0')
	}
	return n
}

// plainRead is P2.2's words for a Rice at the beginning of the digits: the number, and what it took.
func plainRead(digits string, k int) (uint64, int, api.Errno) {
	q := 0
	for q < 24 && q < len(digits) && digits[q] == '1' {
		q++
	}
	behind := digits[q:]
	if q == 24 {
		if len(behind) < 64 {
			return 0, 0, api.ErrShort
		}
		n := plainNumber(behind[:64])
		if plainRice(n, k) != digits[:24+64] {
			return 0, 0, api.ErrForm
		}
		return n, 24 + 64, api.OK
	}
	if len(behind) < 1+k {
		return 0, 0, api.ErrShort
	}
	return uint64(q)<<k + plainNumber(behind[1:1+k]), q + 1 + k, api.OK
}

// digitsOf are the bits of s.
func digitsOf(s string) string {
	digits := ""
	for at := range len(s) {
		digits += plainBits(uint64(s[at]), 8)
	}
	return digits
}

// mixed tells one number after the other, of all lengths, the same ones each time.
func mixed(seed uint64) func() uint64 {
	state := seed
	return func() uint64 {
		state = state*6364136223846793005 + 1442695040888963407
		n := (state ^ state>>29) * 0x9e3779b97f4a7c15
		return n >> (state >> 58)
	}
}

// edges are numbers at which the count of bits, or of groups, changes, for some k.
func edges() []uint64 {
	l := []uint64{0, 1, 5, 22, 23, 24, 25, math.MaxInt64, math.MaxUint64 - 1, math.MaxUint64}
	for k := range 41 {
		for _, q := range []uint64{1, 23, 24} {
			if n := q << k; n>>k == q {
				l = append(l, n-1, n, n+1)
			}
		}
	}
	return l
}

func wrongK() []int {
	return []int{-1, 41, 42, 63, 64, 65, math.MinInt, math.MaxInt}
}

func wrongCounts() []int {
	return []int{-1, -64, 65, 66, 128, math.MinInt, math.MaxInt}
}

// holds looks whether w has just these bits.
func holds(t *testing.T, w *rice.Writer, digits string) {
	t.Helper()
	if w.Len() != len(digits) || w.Bytes() != plainBytes(digits) {
		t.Fatalf("%d bits, %x; not %d, %x", w.Len(), w.Bytes(), len(digits), plainBytes(digits))
	}
}

func TestNothingYet(t *testing.T) { // P2.1
	holds(t, rice.New(), "")
}

func TestPut(t *testing.T) { // P2.1
	for _, x := range []struct {
		n     uint64
		count int
		bytes string
	}{
		{0, 0, ""},
		{0, 1, "\x00"},
		{1, 1, "\x80"},
		{5, 4, "\x50"},
		{0xab, 8, "\xab"},
		{0x155, 9, "\xaa\x80"},
		{1, 64, "\x00\x00\x00\x00\x00\x00\x00\x01"},
		{0x0123456789abcdef, 64, "\x01\x23\x45\x67\x89\xab\xcd\xef"},
		{math.MaxUint64, 64, "\xff\xff\xff\xff\xff\xff\xff\xff"},
	} {
		w := rice.New()
		if e := w.Put(x.n, x.count); e != api.OK || w.Len() != x.count || w.Bytes() != x.bytes {
			t.Errorf("Put(%d, %d): %d, %d bits, %x", x.n, x.count, e, w.Len(), w.Bytes())
		}
	}
}

func TestPutEachCount(t *testing.T) { // P2.1: at each place of a byte
	for ahead := range 9 {
		for count := range 65 {
			most := uint64(math.MaxUint64)
			if count < 64 {
				most = 1<<count - 1
			}
			for _, n := range []uint64{0, most, most / 2, most & 0x5bd1e995a7c3f18d} {
				w := rice.New()
				digits := strings.Repeat("1", ahead)
				for range ahead {
					w.Put(1, 1)
				}
				if e := w.Put(n, count); e != api.OK {
					t.Fatalf("Put(%d, %d): %d", n, count, e)
				}
				holds(t, w, digits+plainBits(n, count))
				w.Put(2, 2)
				holds(t, w, digits+plainBits(n, count)+"10")
			}
		}
	}
}

func TestPutWrong(t *testing.T) { // P2.1, R2
	w := rice.New()
	refuse := func(n uint64, count int) {
		t.Helper()
		if e := w.Put(n, count); e != api.ErrArg {
			t.Errorf("Put(%d, %d): %d", n, count, e)
		}
	}
	for _, digits := range []string{"", "101"} {
		for _, d := range digits {
			w.Put(uint64(d-'0'), 1)
		}
		for _, count := range wrongCounts() {
			refuse(0, count)
			refuse(1, count)
		}
		for count := range 64 {
			refuse(1<<count, count)
			refuse(math.MaxUint64, count)
			refuse(1<<63, count)
		}
		holds(t, w, digits)
	}
}

func TestRice(t *testing.T) { // P2.1
	for _, x := range []struct {
		n      uint64
		k      int
		digits string
	}{
		{9, 2, "11001"},
		{0, 0, "0"},
		{3, 0, "1110"},
		{0, 3, "0000"},
		{7, 3, "0111"},
		{8, 3, "10000"},
		{23, 0, strings.Repeat("1", 23) + "0"},
		{24, 0, strings.Repeat("1", 24) + strings.Repeat("0", 59) + "11000"},
		{47, 1, strings.Repeat("1", 23) + "01"},
		{48, 1, strings.Repeat("1", 24) + strings.Repeat("0", 58) + "110000"},
		{math.MaxUint64, 40, strings.Repeat("1", 88)},
		{1<<40 + 1, 40, "10" + strings.Repeat("0", 39) + "1"},
	} {
		w := rice.New()
		if e := w.Rice(x.n, x.k); e != api.OK {
			t.Errorf("Rice(%d, %d): %d", x.n, x.k, e)
		}
		holds(t, w, x.digits)
	}
}

func TestRiceEachK(t *testing.T) { // P2.1
	for k := range 41 {
		w, digits := rice.New(), ""
		for _, n := range edges() {
			if e := w.Rice(n, k); e != api.OK {
				t.Fatalf("Rice(%d, %d): %d", n, k, e)
			}
			digits += plainRice(n, k)
		}
		holds(t, w, digits)
	}
}

func TestRiceWrong(t *testing.T) { // P2.1, R2
	w, digits := rice.New(), ""
	for range 2 {
		for _, k := range wrongK() {
			for _, n := range []uint64{0, 1, math.MaxUint64} {
				if e := w.Rice(n, k); e != api.ErrArg {
					t.Errorf("Rice(%d, %d): %d", n, k, e)
				}
			}
		}
		holds(t, w, digits)
		w.Put(5, 3)
		digits += "101"
	}
}

func TestBytesStay(t *testing.T) { // P2.1, R3: what was told is not written on
	w := rice.New()
	w.Put(0x8001, 17)
	first := w.Bytes()
	if again := w.Bytes(); again != first || unsafe.StringData(again) == unsafe.StringData(first) {
		t.Errorf("told twice: %x, %x", first, again)
	}
	w.Put(0x7f, 7)
	if first != "\x40\x00\x80" || w.Bytes() != "\x40\x00\xff" || w.Len() != 24 {
		t.Errorf("%x, %x", first, w.Bytes())
	}
}

func TestTwoWriters(t *testing.T) { // R3
	a, b := rice.New(), rice.New()
	a.Put(5, 3)
	holds(t, b, "")
	b.Put(0, 3)
	a.Put(7, 3)
	b.Rice(1, 0)
	holds(t, a, "101111")
	holds(t, b, "00010")
}

func TestGet(t *testing.T) { // P2.2
	const s = "\x01\x23\x45\x67\x89\xab\xcd\xef\xfe\xdc\xba\x98\x76"
	digits := digitsOf(s)
	for ahead := range 10 {
		for count := range 65 {
			r := rice.Read(s)
			if n, e := r.Get(ahead); n != plainNumber(digits[:ahead]) || e != api.OK {
				t.Fatalf("Get(%d): %d %d", ahead, n, e)
			}
			want := plainNumber(digits[ahead : ahead+count])
			if n, e := r.Get(count); n != want || e != api.OK || r.Left() != len(digits)-ahead-count {
				t.Fatalf("Get(%d) behind %d: %d %d, %d left", count, ahead, n, e, r.Left())
			}
			if n, e := r.Get(3); n != plainNumber(digits[ahead+count:][:3]) || e != api.OK {
				t.Fatalf("Get(3) behind %d and %d: %d %d", ahead, count, n, e)
			}
		}
	}
}

func TestGetShort(t *testing.T) { // P2.2
	for length := range 9 {
		s := strings.Repeat("\xa5", length)
		for taken := range 8*length + 1 {
			r := rice.Read(s)
			for range taken {
				r.Get(1)
			}
			left := 8*length - taken
			for count := left + 1; count <= 64; count++ {
				if n, e := r.Get(count); n != 0 || e != api.ErrShort || r.Left() != left {
					t.Fatalf("Get(%d) of %d: %d %d, %d left", count, left, n, e, r.Left())
				}
			}
			if n, e := r.Get(left); n != plainNumber(digitsOf(s)[taken:]) || e != api.OK || r.Left() != 0 {
				t.Fatalf("Get(%d), all: %d %d, %d left", left, n, e, r.Left())
			}
			if n, e := r.Get(0); n != 0 || e != api.OK {
				t.Fatalf("Get(0) at the end: %d %d", n, e)
			}
		}
	}
}

func TestReadWrong(t *testing.T) { // P2.2: ahead of ErrShort, and of ErrForm
	for _, s := range []string{"", "\xff", "\x00", "\xff\xff\xff" + strings.Repeat("\x00", 8), strings.Repeat("\x55", 40)} {
		r := rice.Read(s)
		for _, count := range wrongCounts() {
			if n, e := r.Get(count); n != 0 || e != api.ErrArg {
				t.Errorf("Get(%d) of %x: %d %d", count, s, n, e)
			}
		}
		for _, k := range wrongK() {
			if n, e := r.Rice(k); n != 0 || e != api.ErrArg {
				t.Errorf("Rice(%d) of %x: %d %d", k, s, n, e)
			}
		}
		if r.Left() != 8*len(s) {
			t.Errorf("%x: %d left", s, r.Left())
		}
	}
}

// readsAs looks whether Rice behind the first bits of s is what the words say.
func readsAs(t *testing.T, s string, ahead, k int) {
	t.Helper()
	digits := digitsOf(s)[ahead:]
	n, taken, e := plainRead(digits, k)
	r := rice.Read(s)
	for range ahead {
		r.Get(1)
	}
	if m, f := r.Rice(k); m != n || f != e || r.Left() != len(digits)-taken {
		t.Fatalf("Rice(%d) of %x behind %d: %d %d, %d left; not %d %d, %d left", k, s, ahead, m, f, r.Left(), n, e, len(digits)-taken)
	}
}

func TestReadRice(t *testing.T) { // P2.2: numbers, and their pieces
	for k := range 41 {
		for _, n := range edges() {
			for _, ahead := range []int{0, 3, 7} {
				s := plainBytes(strings.Repeat("1", ahead) + plainRice(n, k))
				readsAs(t, s, ahead, k)
				readsAs(t, s+"\xff", ahead, k)
				readsAs(t, s[:len(s)-1]+"\x00", min(ahead, 8*len(s)), k)
			}
		}
	}
}

func TestReadRiceShort(t *testing.T) { // P2.2
	for k := range 41 {
		for _, n := range []uint64{0, 1 << k, 23 << k, 23<<k + 1<<k - 1, 24 << k, math.MaxUint64} {
			digits := plainRice(n, k)
			for end := range len(digits) {
				padded := strings.Repeat("0", 8-end%8) + digits[:end] // what is left ends at a byte's end
				r := rice.Read(plainBytes(padded))
				r.Get(len(padded) - end)
				if m, e := r.Rice(k); m != 0 || e != api.ErrShort || r.Left() != end {
					t.Fatalf("Rice(%d) of %d bits of %d: %d %d, %d left", k, end, n, m, e, r.Left())
				}
			}
		}
	}
}

func TestReadRiceForm(t *testing.T) { // P2.2
	for k := range 41 {
		least := uint64(24) << k
		for _, n := range []uint64{0, 1, least / 2, least - 1, least, least + 1, math.MaxUint64} {
			s := "\xff\xff\xff" + plainBytes(plainBits(n, 64))
			r := rice.Read(s)
			m, e := r.Rice(k)
			switch {
			case n < least && (m != 0 || e != api.ErrForm || r.Left() != 88):
				t.Errorf("Rice(%d), %d at length: %d %d, %d left", k, n, m, e, r.Left())
			case n >= least && (m != n || e != api.OK || r.Left() != 0):
				t.Errorf("Rice(%d), %d at length: %d %d, %d left", k, n, m, e, r.Left())
			}
			r = rice.Read(s[:len(s)-1])
			if m, e := r.Rice(k); m != 0 || e != api.ErrShort || r.Left() != 80 {
				t.Errorf("Rice(%d), %d a byte too short: %d %d", k, n, m, e)
			}
		}
	}
}

func TestReadRiceOfAny(t *testing.T) { // P2.2
	next := mixed(1)
	for range 3000 {
		b := make([]byte, next()%14)
		for i := range b {
			b[i] = byte(next() >> 3)
			if next()%3 == 0 {
				b[i] = 0xff
			}
		}
		readsAs(t, string(b), int(next()%uint64(8*len(b)+1)), int(next()%41))
	}
}

func TestErrorTakesNothing(t *testing.T) { // P2.2: what is there is read still
	r := rice.Read("\xff\xff\xff\x00")
	for range 3 {
		if n, e := r.Rice(5); n != 0 || e != api.ErrShort || r.Left() != 32 {
			t.Fatal(n, e, r.Left())
		}
	}
	if n, e := r.Get(2); n != 3 || e != api.OK {
		t.Fatal(n, e)
	}
	if n, e := r.Rice(5); n != 22<<5 || e != api.OK || r.Left() != 2 {
		t.Fatal(n, e, r.Left())
	}
	for range 3 {
		if n, e := r.Rice(2); n != 0 || e != api.ErrShort || r.Left() != 2 {
			t.Fatal(n, e, r.Left())
		}
	}
	if n, e := r.Rice(1); n != 0 || e != api.OK || r.Left() != 0 {
		t.Fatal(n, e, r.Left())
	}
}

func TestEnd(t *testing.T) { // P2.2
	for value := range 256 {
		s := "\xff" + string([]byte{byte(value)})
		digits := digitsOf(s)
		for taken := range 17 {
			r := rice.Read(s)
			r.Get(taken)
			left := digits[taken:]
			want := api.OK
			if len(left) >= 8 || strings.Contains(left, "1") {
				want = api.ErrForm
			}
			for range 2 {
				if e := r.End(); e != want || r.Left() != len(left) {
					t.Fatalf("End of %q: %d, %d left", left, e, r.Left())
				}
			}
			if n, e := r.Get(len(left)); n != plainNumber(left) || e != api.OK {
				t.Fatalf("behind End of %q: %d %d", left, n, e)
			}
		}
	}
	for s, want := range map[string]api.Errno{"": api.OK, "\x00": api.ErrForm, strings.Repeat("\x00", 100): api.ErrForm, strings.Repeat("\x00", 8): api.ErrForm} {
		if e := rice.Read(s).End(); e != want {
			t.Errorf("End of %x: %d", s, e)
		}
	}
}

func TestReadKeepsNothing(t *testing.T) { // R3
	b := []byte("\x12\x34")
	r := rice.Read(unsafe.String(&b[0], len(b)))
	b[0], b[1] = 0xff, 0xff
	if n, e := r.Get(16); n != 0x1234 || e != api.OK {
		t.Errorf("%x %d", n, e)
	}
}

func TestTwoReaders(t *testing.T) { // R3
	const s = "\x12\x34"
	a, b := rice.Read(s), rice.Read(s)
	a.Get(12)
	if n, e := b.Get(8); n != 0x12 || e != api.OK || a.Left() != 4 || b.Left() != 8 {
		t.Error(n, e, a.Left(), b.Left())
	}
}

// lists are such of which each k is the best one for some, and none is for others.
func lists() [][]uint64 {
	l := [][]uint64{nil, {}, {0}, {1}, {5, 6, 7, 4}, {1000}, {math.MaxUint64}, {math.MaxUint64, 0}, {1 << 44}, {23 << 40}, {24 << 40}, {24 << 40, 23 << 40}, {23<<40 + 1<<40 - 1, 1 << 40}, {0, 1}, {0, 2}, {1, 1, 3}}
	l = append(l, edges())
	for k := range 41 {
		l = append(l, []uint64{1 << k, 1<<k + 1<<k/2, 2<<k - 1, 1 << k / 2})
	}
	next := mixed(2)
	for length := range 60 {
		some := make([]uint64, length)
		top := next() % 64
		for i := range some {
			some[i] = next() >> top
		}
		l = append(l, some)
	}
	return l
}

func plainCost(l []uint64, k int) int {
	digits := 0
	for _, n := range l {
		digits += len(plainRice(n, k))
	}
	return digits
}

func TestCost(t *testing.T) { // P2.3
	for _, l := range lists() {
		for k := range 41 {
			w := rice.New()
			for _, n := range l {
				w.Rice(n, k)
			}
			if c := rice.Cost(l, k); c != w.Len() || c != plainCost(l, k) {
				t.Fatalf("Cost(%d, %d): %d, not %d", l, k, c, plainCost(l, k))
			}
		}
		for _, k := range wrongK() {
			if c := rice.Cost(l, k); c != 0 {
				t.Fatalf("Cost(%d, %d): %d", l, k, c)
			}
		}
	}
	for k, want := range map[int]int{0: 26, 1: 18, 2: 16, 3: 16, 4: 20} {
		if c := rice.Cost([]uint64{5, 6, 7, 4}, k); c != want {
			t.Errorf("with %d: %d", k, c)
		}
	}
}

func TestBest(t *testing.T) { // P2.3
	had := map[int]bool{}
	for _, l := range lists() {
		want := 0
		for k := range 41 {
			if plainCost(l, k) < plainCost(l, want) {
				want = k
			}
		}
		if k := rice.Best(l); k != want {
			t.Errorf("Best(%d): %d, not %d", l, k, want)
		}
		had[want] = true
	}
	if len(had) != 41 {
		t.Errorf("some k is none's best: %v", had)
	}
	for _, x := range []struct {
		l    []uint64
		best int
	}{{nil, 0}, {[]uint64{0}, 0}, {[]uint64{5, 6, 7, 4}, 2}, {[]uint64{1000}, 9}, {[]uint64{1 << 44}, 40}, {[]uint64{math.MaxUint64}, 0}, {[]uint64{1}, 0}, {[]uint64{2}, 0}, {[]uint64{3}, 1}, {[]uint64{4}, 1}} {
		if k := rice.Best(x.l); k != x.best {
			t.Errorf("Best(%d): %d, not %d", x.l, k, x.best)
		}
	}
}

func TestListsStay(t *testing.T) { // R3: what lies behind a list's length, too
	all := []uint64{9, 3, 7, 1, 5, 11}
	had := slices.Clone(all)
	if rice.Cost(all[1:4], 1) != rice.Cost([]uint64{3, 7, 1}, 1) || rice.Best(all[1:4]) != rice.Best([]uint64{3, 7, 1}) {
		t.Error("what lies around a list counts")
	}
	if !slices.Equal(all, had) {
		t.Errorf("changed: %d", all)
	}
}

// written is a number, and how it was written: with that k, or, if k is -1, in so many bits.
type written struct {
	n        uint64
	k, count int
}

// anyRow writes some numbers, in both ways.
func anyRow(next func() uint64, w *rice.Writer) []written {
	var l []written
	for range next() % 40 {
		x := written{n: next(), k: int(next()%42) - 1}
		if x.k < 0 {
			x.count = len(strings.TrimLeft(plainBits(x.n, 64), "0")) // just enough
			w.Put(x.n, x.count)
		} else {
			w.Rice(x.n, x.k)
		}
		l = append(l, x)
	}
	return l
}

func TestReadBack(t *testing.T) { // P2.4
	next := mixed(3)
	for range 300 {
		w := rice.New()
		l := anyRow(next, w)
		r := rice.Read(w.Bytes())
		for i, x := range l {
			var n uint64
			var e api.Errno
			if x.k < 0 {
				n, e = r.Get(x.count)
			} else {
				n, e = r.Rice(x.k)
			}
			if n != x.n || e != api.OK {
				t.Fatalf("%d of %v: %d %d", i, l, n, e)
			}
		}
		if r.End() != api.OK || r.Left() != 8*len(w.Bytes())-w.Len() {
			t.Fatalf("End: %d, %d left of %d", r.End(), r.Left(), w.Len())
		}
	}
}

func TestExample(t *testing.T) { // P2.1 to P2.4
	w := rice.New()
	w.Rice(9, 2)
	w.Put(5, 4)
	holds(t, w, "110010101")
	r := rice.Read(w.Bytes())
	n, e1 := r.Rice(2)
	m, e2 := r.Get(4)
	if n != 9 || m != 5 || e1 != api.OK || e2 != api.OK || r.Left() != 7 || r.End() != api.OK {
		t.Error(n, m, e1, e2, r.Left(), r.End())
	}
}
