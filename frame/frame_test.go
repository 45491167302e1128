package frame_test

import (
	"fmt"
	"math"
	"slices"
	"strings"
	"testing"
	"unsafe"

	"strandline/frame"
)

// plainCrc is P8.1's words, bit by bit.
func plainCrc(s string) int {
	crc := 0xFFFF
	for _, b := range []byte(s) {
		crc ^= int(b) * 256
		for range 8 {
			out := crc / 0x8000
			crc = crc * 2 % 0x10000
			if out == 1 {
				crc ^= 0x1021
			}
		}
	}
	return crc
}

func plainUint(n uint64) string {
	var b []byte
	for n >= 128 {
		b = append(b, byte(n%128+128))
		n /= 128
	}
	return string(append(b, byte(n)))
}

// twoBytes are a crc's, the higher one first.
func twoBytes(crc int) string {
	return string([]byte{byte(crc / 256), byte(crc % 256)})
}

func plainFrame(s string) string {
	return plainUint(uint64(len(s))) + s + twoBytes(plainCrc(s))
}

// plainFirst tries all texts that stand in s: which one's frame is what s begins with, and how many bytes that has; 0, if there is none.
func plainFirst(t *testing.T, s string) (string, int) {
	text, size := "", 0
	for from := 1; from <= len(s); from++ {
		for to := from; to+2 <= len(s); to++ {
			if len(plainUint(uint64(to-from))) != from || !strings.HasPrefix(s, plainFrame(s[from:to])) {
				continue
			}
			if size != 0 {
				t.Errorf("%x begins with two frames", s)
			}
			text, size = s[from:to], to+2
		}
	}
	return text, size
}

func plainScan(t *testing.T, s string) ([]string, int) {
	var l []string
	for at := 0; ; {
		text, size := plainFirst(t, s[at:])
		if size == 0 {
			return l, at
		}
		l, at = append(l, text), at+size
	}
}

// made tells numbers that look like chance, and are the same each time.
type made uint64

func (m *made) below(n int) int {
	*m = *m*6364136223846793005 + 1442695040888963407
	x := uint64(*m)
	return int(((x ^ x>>29) * 0x9E3779B97F4A7C15 >> 3) % uint64(n))
}

func (m *made) text(size int) string {
	b := make([]byte, size)
	for i := range b {
		b[i] = byte(m.below(256))
	}
	return string(b)
}

// row is of some texts of a size below most each.
func (m *made) row(count, most int) []string {
	var l []string
	for range count {
		l = append(l, m.text(m.below(most)))
	}
	return l
}

// sizes are those at which a length has one byte more, and those about them.
var sizes = []int{0, 1, 2, 3, 126, 127, 128, 129, 130, 255, 256, 257, 3000, 16383, 16384}

// texts have bytes of all kinds: none, those that a length or a crc may be, runes, frames.
func texts() []string {
	l := []string{"", "a", "ab", "\x00", "\x00\x00", "\xff", "\xff\xff", "\x80", "\x80\x00", "é", "\x10\x21", "\n", "123456789", plainFrame(""), plainFrame("a") + plainFrame("b")}
	m := made(8)
	for _, size := range sizes {
		l = append(l, m.text(size), strings.Repeat("\x00", size), strings.Repeat("\xff", size))
	}
	return l
}

// framed are the frames of texts, one behind the other.
func framed(l []string) string {
	s := ""
	for _, text := range l {
		s += plainFrame(text)
	}
	return s
}

// scans fails unless Scan of s tells these texts, and so many bytes.
func scans(t *testing.T, s string, want []string, size int) {
	t.Helper()
	l, n := frame.Scan(s)
	if n != size || !slices.Equal(l, want) {
		t.Errorf("Scan(%s): %d texts %s of %d bytes, not %d %s of %d", short(s), len(l), short(l), n, len(want), short(want), size)
	}
}

func short(x any) string {
	s := fmt.Sprintf("%x", x)
	if len(s) > 200 {
		return s[:200] + ".."
	}
	return s
}

// P8.1: by hand.
func TestCrcByHand(t *testing.T) {
	for _, x := range []struct {
		s   string
		crc int
	}{
		{"", 0xFFFF},
		{"123456789", 0x29B1},
		{"A", 0xB915},
		{"\x00", 0xE1F0},
		{"\xff", 0xFF00},
		{"\xff\xff", 0x0000},         // all bits go out against those of the beginning
		{"\xff\xff\x00", 0x0000},     // and what is 0 stays
		{"\xff\xff\x01", 0x1021},     // one bit goes out as the last one
		{"\xff\xff\x02", 0x2042},     // the one ahead of it: 1021 is moved up by one
		{"\xff\xff\x10", 0x1231},     // the lowest one of the higher half
		{"\xff\xff\x00\x01", 0x1021}, // the same behind one that is 0
		{"\xff\xff\x01\x00", 0x3331}, // what was taken in goes out again: 10 comes to 1231, 21 is moved up
	} {
		if crc := frame.Crc(x.s); crc != x.crc {
			t.Errorf("Crc(%x): %04x, not %04x", x.s, crc, x.crc)
		}
	}
}

// P8.1: all texts of two bytes at most.
func TestCrcOfShortOnes(t *testing.T) {
	holds := func(s string) {
		if crc := frame.Crc(s); crc != plainCrc(s) {
			t.Errorf("Crc(%x): %04x, not %04x", s, crc, plainCrc(s))
		}
	}
	holds("")
	for a := range 256 {
		holds(string([]byte{byte(a)}))
		for b := range 256 {
			holds(string([]byte{byte(a), byte(b)}))
		}
	}
}

// P8.1: longer ones; a text with its crc behind it comes to 0, as what goes out is then all taken away.
func TestCrc(t *testing.T) {
	m := made(1)
	l := texts()
	for size := range 300 {
		l = append(l, m.text(size))
	}
	for _, s := range l {
		crc := frame.Crc(s)
		if crc != plainCrc(s) {
			t.Errorf("Crc(%s): %04x, not %04x", short(s), crc, plainCrc(s))
		}
		if rest := frame.Crc(s + twoBytes(crc)); rest != 0 {
			t.Errorf("Crc(%s) with its crc behind: %04x", short(s), rest)
		}
	}
}

// P8.2: by hand.
func TestFrameByHand(t *testing.T) {
	for _, x := range []struct{ s, f string }{
		{"", "\x00\xff\xff"},
		{"A", "\x01A\xb9\x15"},
		{"\x00", "\x01\x00\xe1\xf0"},
		{"123456789", "\x09123456789\x29\xb1"},
		{"\xff\xff", "\x02\xff\xff\x00\x00"},
		{"\xff\xff\x01", "\x03\xff\xff\x01\x10\x21"},
	} {
		if f := frame.Frame(x.s); f != x.f {
			t.Errorf("Frame(%x): %x, not %x", x.s, f, x.f)
		}
		scans(t, x.f, []string{x.s}, len(x.f))
	}
}

// P8.2: the three parts.
func TestFrame(t *testing.T) {
	for _, s := range texts() {
		if f := frame.Frame(s); f != plainFrame(s) {
			t.Errorf("Frame(%s): %s, not %s", short(s), short(f), short(plainFrame(s)))
		}
	}
}

// P8.2: by hand.
func TestScanByHand(t *testing.T) {
	a, none := frame.Frame("a"), frame.Frame("")
	if len(a) != 4 || len(none) != 3 {
		t.Fatal(len(a), len(none))
	}
	for _, x := range []struct {
		s    string
		l    []string
		size int
	}{
		{"", nil, 0},
		{"x", nil, 0},
		{"x" + a, nil, 0},
		{a, []string{"a"}, 4},
		{a + "x", []string{"a"}, 4},
		{a + "x" + a, []string{"a"}, 4}, // nothing that stands behind is looked for
		{a + a, []string{"a", "a"}, 8},  // one that is there twice is told twice
		{none, []string{""}, 3},
		{none + none + a, []string{"", "", "a"}, 10},
		{"\x00\x00\x00", nil, 0},
		{none + "\x00\x00\x00" + a, []string{""}, 3},
		{frame.Frame(a + none), []string{a + none}, 10}, // frames in a text are a text
		{a[:3] + a, nil, 0},
		{a[1:] + a, nil, 0},
	} {
		scans(t, x.s, x.l, x.size)
	}
}

// P8.2: all short texts of bytes that may be lengths, a text, and crcs.
func TestScanOfShortOnes(t *testing.T) {
	letters := []byte{0x00, 0x01, 0x02, 0x80, 0xff, 0xe1, 0xf0}
	many := 0
	var walk func(s string)
	walk = func(s string) {
		l, size := plainScan(t, s)
		many = max(many, len(l))
		scans(t, s, l, size)
		for _, c := range letters {
			if len(s) < 6 {
				walk(s + string([]byte{c}))
			}
		}
	}
	walk("")
	if many != 2 {
		t.Errorf("%d texts in one", many)
	}
}

// P8.2: lengths that are none, or too long.
func TestScanOfWrongLengths(t *testing.T) {
	nine := strings.Repeat("\xff", 9)
	lengths := []string{
		"\x80", "\xff", "\x80\x80", nine, // that end too early, or go on in the text
		"\x80\x00", "\x81\x00", "\x81\x80\x00", // longer than they need be
		nine + "\x02", nine + "\x7f", nine + "\xff\x01", strings.Repeat("\x80", 10) + "\x00", // beyond 64 bits
	}
	for _, n := range []uint64{2, 3, 4, 5, 127, 128, 300, 1 << 14, 1 << 21, math.MaxInt32, 1 << 32, 1<<32 + 1, 1 << 62, math.MaxInt64 - 2, math.MaxInt64, 1 << 63, 1<<63 + 1, math.MaxUint64 - 3, math.MaxUint64 - 2, math.MaxUint64 - 1, math.MaxUint64} {
		lengths = append(lengths, plainUint(n))
	}
	for _, length := range lengths {
		for _, ahead := range [][]string{nil, {""}, {"a", "bc"}} {
			for _, behind := range []string{"", "a", "a" + twoBytes(plainCrc("a")), twoBytes(plainCrc(""))} {
				scans(t, framed(ahead)+length+behind, ahead, len(framed(ahead)))
			}
		}
	}
}

// P8.2: crcs that are none, each a likely mistake.
func TestScanOfWrongCrcs(t *testing.T) {
	for _, s := range texts() {
		length := plainUint(uint64(len(s)))
		crc := plainCrc(s)
		for _, other := range []int{0, 0xFFFF, crc ^ 0xFFFF, crc%256*256 + crc/256, crc ^ 0x1021, crc - 1, crc + 1, crc ^ 1, crc ^ 0x8000, plainCrc(length + s), plainCrc(s + length), plainCrc(s + "\x00"), plainCrc("\x00" + s)} {
			other &= 0xFFFF
			if other == crc {
				continue
			}
			wrong := length + s + twoBytes(other)
			scans(t, wrong, nil, 0)
			scans(t, plainFrame("a")+wrong+plainFrame("b"), []string{"a"}, 4)
		}
	}
}

// P8.3: rows are scanned as they are, and what stands behind them, and is no frame, is not told.
func TestScanOfRows(t *testing.T) {
	m := made(2)
	rows := [][]string{texts(), make([]string, 1000)}
	for range 200 {
		rows = append(rows, m.row(m.below(10), 1+m.below(300)))
	}
	for _, row := range rows {
		s := ""
		for _, text := range row {
			s += frame.Frame(text)
		}
		if s != framed(row) {
			t.Errorf("frames of %s", short(row))
		}
		for _, behind := range []string{"", "x", "\x00", "\x00\x00\x00", "\x80", "\x80\x00\xff\xff", "\x01a\x00\x00", "\x01a\x00\x00" + plainFrame("b")} {
			scans(t, s+behind, row, len(s))
		}
	}
}

// P8.3: cut off anywhere.
func TestScanOfWhatIsCutOff(t *testing.T) {
	m := made(3)
	rows := [][]string{{""}, {"a"}, {"", "", ""}, {strings.Repeat("\x00", 130)}, {"a", "", strings.Repeat("x", 200), "b"}, {m.text(3000), "", m.text(500)}}
	for range 20 {
		rows = append(rows, m.row(m.below(8), 1+m.below(200)))
	}
	for _, row := range rows {
		s := framed(row)
		whole, size := 0, 0
		for cut := range len(s) + 1 {
			for whole < len(row) && size+len(plainFrame(row[whole])) <= cut {
				size += len(plainFrame(row[whole]))
				whole++
			}
			scans(t, s[:cut], row[:whole], size)
		}
		if whole != len(row) {
			t.Errorf("%d of %d are whole", whole, len(row))
		}
	}
}

// changed tells s with each byte from a place on as each other one.
func changed(s string, from int) func(yield func(string) bool) {
	return func(yield func(string) bool) {
		for i := from; i < len(s); i++ {
			for other := 1; other < 256; other++ {
				if !yield(s[:i] + string([]byte{s[i] ^ byte(other)}) + s[i+1:]) {
					return
				}
			}
		}
	}
}

// P8.3: one byte behind the length is another one; those ahead are told, those behind are not.
func TestScanOfWhatIsChanged(t *testing.T) {
	m := made(4)
	for _, text := range []string{"", "a", "\x00", "\xff\xff", m.text(20), m.text(127), m.text(128), strings.Repeat("\x00", 140), m.text(300)} {
		f := plainFrame(text)
		for wrong := range changed(f, len(f)-len(text)-2) {
			scans(t, wrong, nil, 0)
			scans(t, plainFrame("a")+plainFrame("")+wrong+plainFrame("b"), []string{"a", ""}, 7)
		}
	}
}

// P8.2, P8.3: rows in which some bytes are others, are more, or are left out.
func TestScanOfWhatIsMixedUp(t *testing.T) {
	m := made(5)
	for range 3000 {
		s := framed(m.row(1+m.below(6), 1+m.below(12)))
		for range m.below(3) {
			at := m.below(len(s))
			s = s[:at] + m.text(m.below(3)) + s[at+m.below(2):]
			if s == "" {
				break
			}
		}
		l, size := plainScan(t, s)
		scans(t, s, l, size)
	}
}

// R1: whatever bytes there are.
func TestScanOfAnyBytes(t *testing.T) {
	m := made(6)
	for range 20000 {
		s := m.text(m.below(12))
		if m.below(2) == 0 { // so that lengths are often short enough
			s = string([]byte{byte(m.below(6))}) + s
		}
		l, size := plainScan(t, s)
		scans(t, s, l, size)
	}
}

// shares tells whether part stands in the memory of whole.
func shares(whole, part string) bool {
	from, at := uintptr(unsafe.Pointer(unsafe.StringData(whole))), uintptr(unsafe.Pointer(unsafe.StringData(part)))
	return at >= from && at < from+uintptr(len(whole))
}

// R3: answers are new memory.
func TestNewMemory(t *testing.T) {
	text := strings.Repeat("z", 100)
	s := frame.Frame(text)
	if shares(s, text) {
		t.Error("a frame shares memory with its text")
	}
	s += s
	l, n := frame.Scan(s)
	if n != len(s) || len(l) != 2 {
		t.Fatal(n, len(l))
	}
	if shares(s, l[0]) || shares(s, l[1]) {
		t.Error("a text shares memory with what is scanned")
	}
	if shares(l[0], l[1]) || shares(l[1], l[0]) {
		t.Error("two texts share memory")
	}
	again, _ := frame.Scan(s)
	clear(again[:cap(again)])
	scans(t, s, l, n)
	if l[0] != text || l[1] != text {
		t.Error("two answers share memory")
	}
}
