package zig_test

import (
	"math"
	"math/big"
	"strings"
	"testing"
	"unsafe"

	"strandline/api"
	"strandline/zig"
)

// edges are integers at which the number of groups, or of bits, changes.
func edges() []uint64 {
	l := []uint64{0, 1, 2, 3, 300, math.MaxInt64, math.MaxInt64 + 1, math.MaxUint64 - 1, math.MaxUint64}
	for bit := range 64 {
		n := uint64(1) << bit
		l = append(l, n-1, n, n+1)
	}
	return l
}

// plainUint is P1.1's words by division alone.
func plainUint(n uint64) string {
	var b []byte
	for n >= 128 {
		b = append(b, byte(n%128+128))
		n /= 128
	}
	return string(append(b, byte(n)))
}

// plainFold is P1.1's words in integers that have no bound.
func plainFold(n int) uint64 {
	x := new(big.Int).Mul(big.NewInt(2), big.NewInt(int64(n)))
	if n < 0 {
		x.Neg(x).Sub(x, big.NewInt(1))
	}
	return x.Uint64()
}

// ints are the edges, as integers with a sign, and on the other side of 0.
func ints() []int {
	var l []int
	for _, n := range edges() {
		l = append(l, int(n), -int(n))
	}
	return l
}

func TestUint(t *testing.T) { // P1.1
	for _, x := range []struct {
		n uint64
		s string
	}{
		{0, "\x00"},
		{1, "\x01"},
		{127, "\x7f"},
		{128, "\x80\x01"},
		{300, "\xac\x02"},
		{16383, "\xff\x7f"},
		{16384, "\x80\x80\x01"},
		{1 << 63, "\x80\x80\x80\x80\x80\x80\x80\x80\x80\x01"},
		{1<<63 - 1, "\xff\xff\xff\xff\xff\xff\xff\xff\x7f"},
		{math.MaxUint64, "\xff\xff\xff\xff\xff\xff\xff\xff\xff\x01"},
	} {
		if s := zig.Uint(x.n); s != x.s {
			t.Errorf("Uint(%d): %x, not %x", x.n, s, x.s)
		}
	}
	for _, n := range edges() {
		if s := zig.Uint(n); s != plainUint(n) {
			t.Errorf("Uint(%d): %x, not %x", n, s, plainUint(n))
		}
	}
}

func TestFold(t *testing.T) { // P1.1
	for _, x := range []struct {
		n int
		f uint64
	}{{0, 0}, {-1, 1}, {1, 2}, {-2, 3}, {2, 4}, {-3, 5}, {math.MaxInt, math.MaxUint64 - 1}, {math.MinInt, math.MaxUint64}} {
		if f := zig.Fold(x.n); f != x.f {
			t.Errorf("Fold(%d): %d, not %d", x.n, f, x.f)
		}
		if n := zig.Unfold(x.f); n != x.n {
			t.Errorf("Unfold(%d): %d, not %d", x.f, n, x.n)
		}
	}
	for _, n := range ints() {
		if f := zig.Fold(n); f != plainFold(n) || zig.Unfold(f) != n {
			t.Errorf("Fold(%d): %d, not %d", n, f, plainFold(n))
		}
	}
	for _, f := range edges() {
		if n := zig.Unfold(f); zig.Fold(n) != f {
			t.Errorf("Unfold(%d): %d, whose Fold is %d", f, n, zig.Fold(n))
		}
	}
}

func TestInt(t *testing.T) { // P1.1
	if s := zig.Int(-3); s != "\x05" {
		t.Errorf("Int(-3): %x", s)
	}
	for _, n := range ints() {
		if s := zig.Int(n); s != plainUint(plainFold(n)) {
			t.Errorf("Int(%d): %x, not %x", n, s, plainUint(plainFold(n)))
		}
	}
}

// texts have lengths of one group and of two, and bytes that are no UTF-8.
func texts() []string {
	return []string{"", "a", "ab", "\x00", "\xff\x80", strings.Repeat("x", 127), strings.Repeat("y", 128), strings.Repeat("\x80", 3000)}
}

func TestText(t *testing.T) { // P1.1
	if s := zig.Text("ab"); s != "\x02ab" {
		t.Errorf("Text(ab): %x", s)
	}
	for _, x := range texts() {
		if s := zig.Text(x); s != plainUint(uint64(len(x)))+x {
			t.Errorf("Text(%x): %x", x, s)
		}
	}
}

// wrongPlaces are none of a text of n bytes.
func wrongPlaces(n int) []int {
	return []int{-1, n + 1, n + 2, math.MinInt, math.MaxInt}
}

// readErrors tells which error each of the three calls has; none of them may tell more beside it.
func readErrors(t *testing.T, s string, at int) [3]api.Errno {
	n, end1, e1 := zig.GetUint(s, at)
	i, end2, e2 := zig.GetInt(s, at)
	x, end3, e3 := zig.GetText(s, at)
	if e1 != api.OK && (n != 0 || end1 != 0) || e2 != api.OK && (i != 0 || end2 != 0) || e3 != api.OK && (x != "" || end3 != 0) {
		t.Errorf("%x at %d: more than an error: %d %d, %d %d, %x %d", s, at, n, end1, i, end2, x, end3)
	}
	return [3]api.Errno{e1, e2, e3}
}

func all(e api.Errno) [3]api.Errno {
	return [3]api.Errno{e, e, e}
}

func TestGetWrongPlace(t *testing.T) { // P1.2
	for _, s := range []string{"", "\x00", "\x01a", "\x80", "\x80\x00"} {
		for _, at := range wrongPlaces(len(s)) {
			if e := readErrors(t, s, at); e != all(api.ErrArg) {
				t.Errorf("%x at %d: %d", s, at, e)
			}
		}
		if e := readErrors(t, s, len(s)); e != all(api.ErrShort) {
			t.Errorf("%x at its end: %d", s, e)
		}
	}
}

func TestGetShort(t *testing.T) { // P1.2
	for _, ahead := range []string{"", "\x00", "\x80\x80"} {
		for n := range 10 { // with ten of them it is ErrForm
			s := ahead + strings.Repeat("\x80", n)
			if e := readErrors(t, s, len(ahead)); e != all(api.ErrShort) {
				t.Errorf("%x at %d: %d", s, len(ahead), e)
			}
		}
	}
}

func TestGetForm(t *testing.T) { // P1.2
	nine := strings.Repeat("\xff", 9)
	for _, s := range []string{
		nine + "\xff",                       // ten bytes, and none ends it
		nine + "\xff\x01",                   // ended too late
		strings.Repeat("\x80", 10) + "\x00", // likewise
		nine + "\x02",                       // 2^64 and more
		nine + "\x03",                       // the bit 63 beside one beyond
		nine + "\x7f",                       //
		"\x80\x80\x80\x80\x80\x80\x80\x80\x80\x02", // just 2^64
		nine + "\x00", // an empty group more
		"\x80\x00",
		"\xff\x00",
		"\xac\x82\x00",
	} {
		for _, ahead := range []string{"", "\x00", "\x05\x80"} {
			for _, behind := range []string{"", "\x00", "abc"} {
				if e := readErrors(t, ahead+s+behind, len(ahead)); e != all(api.ErrForm) {
					t.Errorf("%x at %d: %d", ahead+s+behind, len(ahead), e)
				}
			}
		}
	}
}

func TestGetTextShort(t *testing.T) { // P1.2
	for _, s := range []string{"\x01", "\x04abc", "\x80\x01" + strings.Repeat("x", 127)} {
		if x, at, e := zig.GetText(s, 0); x != "" || at != 0 || e != api.ErrShort {
			t.Errorf("%x: %x %d %d", s, x, at, e)
		}
	}
	for _, n := range edges() { // lengths that are below 0, or beside the mark, if they are added up as int
		if n <= 3 {
			continue
		}
		if x, at, e := zig.GetText("--"+zig.Uint(n)+"abc", 2); x != "" || at != 0 || e != api.ErrShort {
			t.Errorf("length %d: %x %d %d", n, x, at, e)
		}
	}
}

// around are what may stand ahead of a thing, and behind it.
func around() [][2]string {
	return [][2]string{{"", ""}, {"", "\x80"}, {"a", ""}, {"\xff\xff", "\xff"}, {strings.Repeat("\x80", 12), "\x00\x01"}}
}

func TestReadBack(t *testing.T) { // P1.2, P1.3
	for _, a := range around() {
		at := len(a[0])
		for _, n := range edges() {
			s := zig.Uint(n)
			if m, end, e := zig.GetUint(a[0]+s+a[1], at); m != n || end != at+len(s) || e != api.OK {
				t.Errorf("Uint(%d) behind %x: %d %d %d", n, a[0], m, end, e)
			}
		}
		for _, n := range ints() {
			s := zig.Int(n)
			if m, end, e := zig.GetInt(a[0]+s+a[1], at); m != n || end != at+len(s) || e != api.OK {
				t.Errorf("Int(%d) behind %x: %d %d %d", n, a[0], m, end, e)
			}
		}
		for _, x := range texts() {
			s := zig.Text(x)
			if y, end, e := zig.GetText(a[0]+s+a[1], at); y != x || end != at+len(s) || e != api.OK {
				t.Errorf("Text(%x) behind %x: %x %d %d", x, a[0], y, end, e)
			}
		}
	}
}

func TestReadInARow(t *testing.T) { // P1.3
	row := zig.Int(-3) + zig.Text("ab") + zig.Uint(300) + zig.Text("")
	n, at, e1 := zig.GetInt(row, 0)
	x, at, e2 := zig.GetText(row, at)
	m, at, e3 := zig.GetUint(row, at)
	y, at, e4 := zig.GetText(row, at)
	if n != -3 || x != "ab" || m != 300 || y != "" || at != len(row) {
		t.Error(n, x, m, y, at)
	}
	if e := [4]api.Errno{e1, e2, e3, e4}; e != [4]api.Errno{} {
		t.Error(e)
	}
}

// shares tells whether part stands in the memory of whole.
func shares(whole, part string) bool {
	from, at := uintptr(unsafe.Pointer(unsafe.StringData(whole))), uintptr(unsafe.Pointer(unsafe.StringData(part)))
	return at >= from && at < from+uintptr(len(whole))
}

func TestNewMemory(t *testing.T) { // R3
	s := strings.Repeat("z", 100)
	row := zig.Text(s)
	x, _, e := zig.GetText(row, 0)
	if e != api.OK || x != s {
		t.Fatal(x, e)
	}
	if shares(row, x) || shares(row, s) {
		t.Error("an answer shares memory with an argument")
	}
}

// oneMeaning looks whether what the calls take is just what would be written of it.
func oneMeaning(t *testing.T, s string) {
	t.Helper()
	if n, end, e := zig.GetUint(s, 0); e == api.OK && s[:end] != zig.Uint(n) {
		t.Errorf("GetUint(%x): %d %d", s, n, end)
	}
	if n, end, e := zig.GetInt(s, 0); e == api.OK && s[:end] != zig.Int(n) {
		t.Errorf("GetInt(%x): %d %d", s, n, end)
	}
	if x, end, e := zig.GetText(s, 0); e == api.OK && s[:end] != zig.Text(x) {
		t.Errorf("GetText(%x): %x %d", s, x, end)
	}
}

func TestOneMeaning(t *testing.T) { // P1.3
	for a := range 256 {
		oneMeaning(t, string([]byte{byte(a)}))
		for b := range 256 {
			oneMeaning(t, string([]byte{byte(a), byte(b)}))
			oneMeaning(t, string([]byte{byte(a), 0x80, byte(b)}))
			oneMeaning(t, strings.Repeat("\x80", 8)+string([]byte{byte(a), byte(b), 0}))
			oneMeaning(t, strings.Repeat("\xff", 8)+string([]byte{byte(a), byte(b), 0}))
		}
	}
}

func TestWholeOrError(t *testing.T) { // P1.2: the error of each short text, by the words
	letters := []byte{0x00, 0x01, 0x02, 0x7f, 0x80, 0xff}
	var walk func(s string)
	walk = func(s string) {
		want := all(api.OK)
		n := strings.IndexFunc(s, func(r rune) bool { return r < 0x80 })
		switch {
		case n < 0:
			want = all(api.ErrShort)
		case n > 0 && s[n] == 0:
			want = all(api.ErrForm)
		default:
			if length, end, _ := zig.GetUint(s, 0); length > uint64(len(s)-end) {
				want[2] = api.ErrShort
			}
		}
		if e := readErrors(t, s, 0); e != want {
			t.Errorf("%x: %d, not %d", s, e, want)
		}
		for _, c := range letters {
			if len(s) < 4 {
				walk(s + string([]byte{c}))
			}
		}
	}
	walk("")
}
