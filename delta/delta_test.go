package delta_test

import (
	"math"
	"math/big"
	"slices"
	"strings"
	"testing"
	"unsafe"

	"strandline/api"
	"strandline/delta"
)

// plainUint is n in groups of seven bits, the lowest one first.
func plainUint(n *big.Int) string {
	var b []byte
	rest := new(big.Int).Set(n)
	for rest.BitLen() > 7 {
		b = append(b, byte(new(big.Int).And(rest, big.NewInt(127)).Int64())+128)
		rest.Rsh(rest, 7)
	}
	return string(append(b, byte(rest.Int64())))
}

// plainFold is 2 n from 0 on, -2 n - 1 below.
func plainFold(n *big.Int) *big.Int {
	twice := new(big.Int).Lsh(n, 1)
	if n.Sign() < 0 {
		twice.Neg(twice)
		twice.Sub(twice, big.NewInt(1))
	}
	return twice
}

// plainLess is x less y, turned over into 64 bits.
func plainLess(x, y int) *big.Int {
	d := new(big.Int).Sub(big.NewInt(int64(x)), big.NewInt(int64(y)))
	whole := new(big.Int).Lsh(big.NewInt(1), 64)
	if d.Cmp(big.NewInt(math.MaxInt64)) > 0 {
		d.Sub(d, whole)
	}
	if d.Cmp(big.NewInt(math.MinInt64)) < 0 {
		d.Add(d, whole)
	}
	return d
}

// plainBits are the lowest count bits of n as digits, the highest one first.
func plainBits(n *big.Int, count int) string {
	var b strings.Builder
	for i := count - 1; i >= 0; i-- {
		b.WriteByte('0' + byte(n.Bit(i)))
	}
	return b.String()
}

func plainRice(n *big.Int, k int) string {
	q := new(big.Int).Rsh(n, uint(k))
	if q.Cmp(big.NewInt(24)) < 0 {
		return strings.Repeat("1", int(q.Int64())) + "0" + plainBits(n, k)
	}
	return strings.Repeat("1", 24) + plainBits(n, 64)
}

func plainBest(l []*big.Int) int {
	best, least := 0, math.MaxInt
	for k := range 41 {
		sum := 0
		for _, n := range l {
			sum += len(plainRice(n, k))
		}
		if sum < least {
			best, least = k, sum
		}
	}
	return best
}

func plainBytes(digits string) string {
	digits += strings.Repeat("0", (8-len(digits)%8)%8)
	var b []byte
	for at := 0; at < len(digits); at += 8 {
		n := byte(0)
		for _, d := range digits[at : at+8] {
			n = 2*n + byte(d-'0')
		}
		b = append(b, n)
	}
	return string(b)
}

// plainNumbers are P3.1's numbers of each kind.
func plainNumbers(l []api.Sample) (times, values []*big.Int) {
	distance := big.NewInt(0)
	for i := range l[min(1, len(l)):] {
		d := big.NewInt(int64(l[i+1].T) - int64(l[i].T))
		times = append(times, plainFold(new(big.Int).Sub(d, distance)))
		values = append(values, plainFold(plainLess(l[i+1].V, l[i].V)))
		distance = d
	}
	return times, values
}

// plainWith is P3.1's text with whatever a and b; it looks at no limit and at no order.
func plainWith(l []api.Sample, a, b int) string {
	s := plainUint(big.NewInt(int64(len(l))))
	if len(l) == 0 {
		return s
	}
	s += plainUint(big.NewInt(int64(l[0].T))) + plainUint(plainFold(big.NewInt(int64(l[0].V))))
	if len(l) == 1 {
		return s
	}
	times, values := plainNumbers(l)
	var digits strings.Builder
	for i := range times {
		digits.WriteString(plainRice(times[i], a))
		digits.WriteString(plainRice(values[i], b))
	}
	return s + string([]byte{byte(a), byte(b)}) + plainBytes(digits.String())
}

func plainEncode(l []api.Sample) string {
	times, values := plainNumbers(l)
	return plainWith(l, plainBest(times), plainBest(values))
}

// made tells numbers that look like chance, and are the same each time.
type made uint64

func (m *made) next() uint64 {
	*m = *m*6364136223846793005 + 1442695040888963407
	x := uint64(*m)
	return (x ^ x>>29) * 0x9E3779B97F4A7C15 >> 3
}

func (m *made) below(n int) int {
	return int(m.next() % uint64(n))
}

// samples are count samples whose distances and values have some many bits at most.
func (m *made) samples(count, timeBits, valueBits int) []api.Sample {
	var l []api.Sample
	x := api.Sample{T: m.below(1 << timeBits), V: m.value(valueBits)}
	for range count {
		l = append(l, x)
		x.T += 1 + m.below(1<<timeBits)
		x.V += m.value(valueBits)
	}
	return l
}

// value has some many bits, and is below 0 as often as not.
func (m *made) value(bits int) int {
	n := int((m.next() << 20) ^ m.next())
	return n >> (64 - bits)
}

// lists are lists in order of many kinds.
func lists() [][]api.Sample {
	m := made(3)
	all := [][]api.Sample{
		nil,
		{{T: 0, V: 0}},
		{{T: api.MaxTime - 1, V: math.MinInt}},
		{{T: 127, V: 63}},
		{{T: 128, V: -65}},
		{{T: 0, V: math.MaxInt}, {T: 1, V: math.MinInt}},
		{{T: 0, V: math.MinInt}, {T: 1, V: math.MaxInt}},
		{{T: 0, V: math.MinInt}, {T: api.MaxTime - 1, V: 0}},
		{{T: 0, V: 1}, {T: api.MaxTime - 2, V: 1}, {T: api.MaxTime - 1, V: 1}},
		{{T: 0, V: 1}, {T: 1, V: 1}, {T: api.MaxTime - 1, V: 1}},
	}
	for count := range 40 {
		for _, timeBits := range []int{0, 1, 5, 12, 34} {
			for _, valueBits := range []int{1, 4, 17, 43, 64} {
				all = append(all, m.samples(count, timeBits, valueBits))
			}
		}
	}
	return append(all, m.samples(api.MaxCount, 2, 4), m.samples(api.MaxCount, 20, 64))
}

// must encodes what may be encoded.
func must(t *testing.T, l []api.Sample) string {
	t.Helper()
	s, e := delta.Encode(l)
	if e != api.OK {
		t.Fatalf("Encode(%v): %d", l, e)
	}
	return s
}

// P3.1, with numbers worked out by hand.
func TestEncodeByHand(t *testing.T) {
	for _, x := range []struct {
		l []api.Sample
		s string
	}{
		{nil, "\x00"},
		{[]api.Sample{}, "\x00"},
		{[]api.Sample{{T: 5, V: -3}}, "\x01\x05\x05"},
		// distances 1, 1: 2, 0; values 0, 0. 110 0 0 0
		{[]api.Sample{{T: 5, V: 1}, {T: 6, V: 1}, {T: 7, V: 1}}, "\x03\x05\x02\x00\x00\xc0"},
		// distance 10: 20, with 3 110 100; value -1: 1, with 0 10
		{[]api.Sample{{T: 0, V: 0}, {T: 10, V: -1}}, "\x02\x00\x00\x03\x00\xd2"},
		// distances 3, 1: 6, and 3 (shorter by 2), with 2 10 10 and 0 11; values 4, -4: 8, 7, with 2 110 00 and 10 11. 10 10 110 00, 0 11 10 11
		{[]api.Sample{{T: 1, V: 0}, {T: 4, V: 4}, {T: 5, V: 0}}, "\x03\x01\x00\x02\x02\xac\x3b"},
	} {
		if s, e := delta.Encode(x.l); s != x.s || e != api.OK {
			t.Errorf("Encode(%v): %x, %d; not %x", x.l, s, e, x.s)
		}
	}
}

// P3.1: as the words say, with the best a and b.
func TestEncodeAsThePlainOne(t *testing.T) {
	for _, l := range lists() {
		if s := must(t, l); s != plainEncode(l) {
			t.Fatalf("Encode(%v): %x; not %x", l, s, plainEncode(l))
		}
	}
}

// P3.1: the first of the best shifts, where several are as good.
func TestEncodeTakesTheLowestBestShift(t *testing.T) {
	// the distance's 4 takes four bits with 1, and with 2; the value's 1 takes two with 0, and with 1
	s := must(t, []api.Sample{{T: 0, V: 0}, {T: 2, V: -1}})
	if s[3] != 1 || s[4] != 0 {
		t.Errorf("%x", s)
	}
}

// P3.1: ErrArg ahead of ErrOrder.
func TestEncodeTooMany(t *testing.T) {
	m := made(1)
	many := m.samples(api.MaxCount+1, 3, 3)
	for _, l := range [][]api.Sample{many, make([]api.Sample, api.MaxCount+1), make([]api.Sample, 2*api.MaxCount)} {
		if s, e := delta.Encode(l); s != "" || e != api.ErrArg {
			t.Errorf("%d samples: %d bytes, %d", len(l), len(s), e)
		}
	}
	must(t, many[1:])
	if s, e := delta.Encode(make([]api.Sample, api.MaxCount)); s != "" || e != api.ErrOrder {
		t.Errorf("%d bytes, %d", len(s), e)
	}
}

// P3.1: ErrOrder, wherever it is.
func TestEncodeOutOfOrder(t *testing.T) {
	for _, l := range [][]api.Sample{
		{{T: -1}},
		{{T: math.MinInt}},
		{{T: api.MaxTime}},
		{{T: math.MaxInt}},
		{{T: 5}, {T: 5}},
		{{T: 5}, {T: 4}},
		{{T: 0}, {T: -1}},
		{{T: -1}, {T: 0}},
		{{T: math.MinInt}, {T: 0}},
		{{T: 0}, {T: api.MaxTime}},
		{{T: 5, V: 1}, {T: 5, V: 2}},
		{{T: 1}, {T: 2}, {T: 2}},
		{{T: 1}, {T: 3}, {T: 2}, {T: 4}},
		{{T: 1}, {T: 3}, {T: api.MaxTime}, {T: 4}},
	} {
		if s, e := delta.Encode(l); s != "" || e != api.ErrOrder {
			t.Errorf("Encode(%v): %x, %d", l, s, e)
		}
	}
	m := made(2)
	for at := range 30 {
		l := m.samples(30, 4, 4)
		for _, wrong := range []int{-1, api.MaxTime, l[max(at-1, 0)].T - 1, math.MaxInt} {
			bad := slices.Clone(l)
			bad[at].T = wrong
			if s, e := delta.Encode(bad); wrong < 0 || at > 0 || wrong >= api.MaxTime {
				if s != "" || e != api.ErrOrder {
					t.Fatalf("Encode(%v): %x, %d", bad, s, e)
				}
			}
		}
	}
}

// P3.2, P3.4: what is encoded is decoded, and two lists have two encodings.
func TestDecodeTurnsEncodeRound(t *testing.T) {
	whose := map[string][]api.Sample{}
	for _, l := range lists() {
		s := must(t, l)
		if other, ok := whose[s]; ok && !slices.Equal(other, l) {
			t.Fatalf("%v and %v are both %x", l, other, s)
		}
		whose[s] = l
		if got, e := delta.Decode(s); !slices.Equal(got, l) || e != api.OK {
			t.Fatalf("Decode(Encode(%v)): %v, %d", l, got, e)
		}
	}
}

// refused fails unless Decode tells ErrForm, and nothing else.
func refused(t *testing.T, s string) {
	t.Helper()
	if l, e := delta.Decode(s); len(l) != 0 || e != api.ErrForm {
		t.Errorf("Decode(%x): %v, %d", s, l, e)
	}
}

// P3.2: bytes that are no encoding.
func TestDecodeRefuses(t *testing.T) {
	for _, s := range []string{
		"", "\x00\x00", "\x80", "\x80\x00", "\x81\x00", "\x01", "\x01\x05", "\x01\x85", "\x01\x05\x85", "\x01\x05\x05\x00",
		"\x81\x00\x05\x05", "\x01\x85\x00\x05", "\x01\x05\x85\x00", // a group too many
		"\x02\x05\x05", "\x02\x05\x05\x00", "\x02\x05\x05\x00\x00", // no bits
		"\x03\x05\x02\x01\x00\xc0", "\x03\x05\x02\x00\x00\xc1", "\x03\x05\x02\x00\x00", "\x03\x05\x02\x00\x00\xc0\x00",
		"\x89\x27", "\x88\x27", "\x89\x27\x00\x00\x00\x00", "\xff\xff\xff\xff\xff\xff\xff\xff\xff\x01\x00\x00\x00\x00\x00",
		strings.Repeat("\xff", 30), strings.Repeat("\x00", 3000), strings.Repeat("\x02", 3000),
	} {
		refused(t, s)
	}
}

// P3.2: what would be more than MaxCount, or out of order, were it encoded all the same.
func TestDecodeRefusesWhatMayNotBe(t *testing.T) {
	m := made(5)
	refused(t, plainEncode(m.samples(api.MaxCount+1, 2, 2)))
	if _, e := delta.Decode(plainEncode(m.samples(api.MaxCount, 2, 2))); e != api.OK {
		t.Error(e)
	}
	for _, l := range [][]api.Sample{
		{{T: api.MaxTime}},
		{{T: math.MaxInt}},
		{{T: api.MaxTime}, {T: api.MaxTime + 1}},
		{{T: 5}, {T: 5}},
		{{T: 5}, {T: 4}},
		{{T: 5}, {T: -1}},
		{{T: 5}, {T: api.MaxTime}},
		{{T: 5}, {T: 4}, {T: 6}},
		{{T: 5}, {T: 6}, {T: 6}, {T: 7}},
		{{T: 5}, {T: math.MaxInt - 5}, {T: 7}},
		{{T: 0}, {T: math.MaxInt}, {T: math.MinInt}, {T: 7}},
	} {
		refused(t, plainEncode(l))
	}
	refused(t, "\x01"+plainUint(new(big.Int).SetUint64(math.MaxUint64))+"\x00") // a T of all 64 bits
}

// P3.2: a first distance by which T, turned over in 64 bits, would be in order.
func TestDecodeRefusesWhatTurnsOver(t *testing.T) {
	for _, distances := range [][]uint64{{1 << 63, 1 << 63}, {math.MaxUint64, 1}, {1 << 62, 1 << 62, 1 << 62, 1<<62 + 1}} {
		digits := ""
		for _, d := range distances {
			digits += plainRice(new(big.Int).SetUint64(d), 0) + "0"
		}
		s := string([]byte{byte(len(distances) + 1), 5, 0, 0, 0}) + plainBytes(digits)
		l, e := delta.Decode(s)
		if e == api.OK && plainEncode(l) != s || e != api.OK && e != api.ErrForm {
			t.Errorf("Decode(%x): %v, %d", s, l, e)
		}
	}
}

// P3.2: a and b other than the best ones.
func TestDecodeRefusesOtherShifts(t *testing.T) {
	m := made(6)
	for _, l := range [][]api.Sample{m.samples(2, 3, 3), m.samples(9, 6, 12), m.samples(20, 0, 1), m.samples(7, 30, 60), {{T: 0}, {T: 2, V: -1}}} {
		right := must(t, l)
		at := len(plainWith(l[:1], 0, 0))
		for k := range 41 {
			if byte(k) != right[at] {
				refused(t, plainWith(l, k, int(right[at+1])))
			}
			if byte(k) != right[at+1] {
				refused(t, plainWith(l, int(right[at]), k))
			}
		}
		for k := 41; k < 256; k++ {
			refused(t, right[:at]+string([]byte{byte(k)})+right[at+1:])
			refused(t, right[:at+1]+string([]byte{byte(k)})+right[at+2:])
		}
	}
}

// P3.2, P3.4: every text of some bytes that is of one sample at most.
func TestDecodeAllShort(t *testing.T) {
	for first := range 256 {
		for second := range 256 {
			refused(t, string([]byte{byte(first), byte(second)}))
		}
		s := string([]byte{byte(first)})
		if l, e := delta.Decode(s); len(l) != 0 || (e == api.OK) != (first == 0) || e != api.OK && e != api.ErrForm {
			t.Errorf("Decode(%x): %v, %d", s, l, e)
		}
	}
	for _, first := range []byte{0, 1, 2, 3, 127, 128, 129, 255} {
		for rest := range 256 * 256 {
			one, two := byte(rest>>8), byte(rest)
			s := string([]byte{first, one, two})
			l, e := delta.Decode(s)
			if first == 1 && one < 128 && two < 128 {
				if e != api.OK || len(l) != 1 || plainEncode(l) != s {
					t.Fatalf("Decode(%x): %v, %d", s, l, e)
				}
			} else if e != api.ErrForm || len(l) != 0 {
				t.Fatalf("Decode(%x): %v, %d", s, l, e)
			}
		}
	}
}

// P3.2, P3.4: every text of two samples whose bits are one byte is an encoding, or refused.
func TestDecodeAllOfOneByteOfBits(t *testing.T) {
	whose := map[string][]api.Sample{}
	for distance := 1; distance <= 200; distance++ {
		for more := -200; more <= 200; more++ {
			l := []api.Sample{{T: 5, V: -3}, {T: 5 + distance, V: -3 + more}}
			if s := must(t, l); len(s) == 6 {
				whose[s] = l
			}
		}
	}
	found := 0
	for a := range 42 {
		for b := range 42 {
			for bits := range 256 {
				s := string([]byte{2, 5, 5, byte(a), byte(b), byte(bits)})
				l, e := delta.Decode(s)
				if w, ok := whose[s]; ok {
					found++
					if e != api.OK || !slices.Equal(l, w) {
						t.Fatalf("Decode(%x): %v, %d; not %v", s, l, e, w)
					}
				} else if e != api.ErrForm || len(l) != 0 {
					t.Fatalf("Decode(%x): %v, %d", s, l, e)
				}
			}
		}
	}
	if found != len(whose) || found == 0 {
		t.Errorf("%d of %d", found, len(whose))
	}
}

// P3.2, P3.4: encodings that are cut, lengthened or changed by a bit are refused, or the encoding of other samples.
func TestDecodeHarmed(t *testing.T) {
	m := made(7)
	for range 15 {
		l := m.samples(1+m.below(12), m.below(36), 1+m.below(64))
		s := must(t, l)
		for at := range s {
			refused(t, s[:at])
		}
		for _, more := range []string{"\x00", "\x80", "\xff", "\x00\x00", "ab"} {
			refused(t, s+more)
		}
		for bit := range 8 * len(s) {
			b := []byte(s)
			b[bit/8] ^= 1 << (bit % 8)
			got, e := delta.Decode(string(b))
			if e == api.OK && plainEncode(got) == string(b) && slices.IsSortedFunc(got, func(x, y api.Sample) int { return x.T - y.T }) {
				continue
			}
			if e != api.ErrForm || len(got) != 0 {
				t.Fatalf("Decode(%x): %v, %d", b, got, e)
			}
		}
	}
}

// P3.3.
func TestMost(t *testing.T) {
	for _, x := range [][2]int{
		{0, 25}, {1, 47}, {2, 69}, {3, 91}, {5000, 110025}, {-1, 25}, {-4, 25}, {math.MinInt, 25},
		{1<<40 - 1, 24189255811075}, {1 << 40, 24189255811097}, {1<<40 + 1, 24189255811097}, {math.MaxInt, 24189255811097},
	} {
		if n := delta.Most(x[0]); n != x[1] {
			t.Errorf("Most(%d): %d, not %d", x[0], n, x[1])
		}
	}
}

// P3.3: no encoding has more bytes, not of the worst of samples either.
func TestMostHolds(t *testing.T) {
	for _, l := range lists() {
		if s := must(t, l); len(s) > delta.Most(len(l)) {
			t.Errorf("%d bytes of %d samples", len(s), len(l))
		}
	}
	for _, count := range []int{1, 2, 3, 50, api.MaxCount} {
		var l []api.Sample
		for i := range count {
			l = append(l, api.Sample{T: api.MaxTime - 2*api.MaxCount + i, V: math.MinInt + (i%2)*math.MaxInt})
		}
		if s := must(t, l); len(s) > delta.Most(count) {
			t.Errorf("%d bytes of %d samples", len(s), count)
		}
	}
}

// P3.4: two bits each, where distance and value stay, behind some bytes.
func TestSteadySamplesAreShort(t *testing.T) {
	for _, x := range []struct{ first, distance, value int }{{0, 1, 0}, {77, 60, -5}, {1 << 39, 1 << 20, math.MaxInt}} {
		for _, count := range []int{2, 3, 10, 1000, api.MaxCount} {
			var l []api.Sample
			for i := range count {
				l = append(l, api.Sample{T: x.first + i*x.distance, V: x.value})
			}
			if s := must(t, l); len(s) > 32+count/4 {
				t.Errorf("%v: %d bytes of %d samples", x, len(s), count)
			}
		}
	}
}

// R3: what is handed in is not changed, nor what lies behind it.
func TestEncodeLeavesTheList(t *testing.T) {
	m := made(8)
	all := m.samples(20, 5, 20)
	kept := slices.Clone(all)
	must(t, all[:10])
	bad := append(slices.Clone(all[:10]), all[9])
	keptBad := slices.Clone(bad)
	delta.Encode(bad)
	if !slices.Equal(all, kept) || !slices.Equal(bad, keptBad) {
		t.Error("changed")
	}
}

// R3, R5: answers are new memory, and the same each time.
func TestAnswersAreNew(t *testing.T) {
	m := made(9)
	for _, l := range [][]api.Sample{nil, m.samples(1, 5, 5), m.samples(2, 5, 5), m.samples(30, 5, 5)} {
		s, again := must(t, l), must(t, l)
		if s != again || unsafe.StringData(s) == unsafe.StringData(again) && len(s) > 1 {
			t.Errorf("%x, %x", s, again)
		}
		one, _ := delta.Decode(s)
		two, _ := delta.Decode(s)
		for i := range one[:cap(one)] {
			one[:cap(one)][i] = api.Sample{T: -1}
		}
		if !slices.Equal(two, l) {
			t.Errorf("%v, not %v", two, l)
		}
		if three, e := delta.Decode(s); !slices.Equal(three, l) || e != api.OK {
			t.Errorf("%v, not %v", three, l)
		}
	}
}
