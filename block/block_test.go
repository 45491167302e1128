package block_test

import (
	"fmt"
	"math"
	"slices"
	"strings"
	"testing"
	"unsafe"

	"strandline/api"
	"strandline/block"
)

type write struct {
	i int
	s string
}

// plain is a disk by the chapter's words: it keeps all writes that wait, in the order in which they came.
type plain struct {
	lasts []string
	waits []write
	dead  bool
	calls int
	order int // the number of the call that is the last one; -1, if there is no order
	keep  uint64
}

func newPlain(n int) *plain {
	size := n
	if n < 8 {
		size = 8
	}
	if n > 512 {
		size = 512
	}
	return &plain{lasts: make([]string, size), order: -1}
}

// waiting are the writes that wait for a sector.
func (p *plain) waiting(i int) []string {
	var l []string
	for _, w := range p.waits {
		if w.i == i {
			l = append(l, w.s)
		}
	}
	return l
}

func (p *plain) has(i int) bool {
	return i >= 0 && i < len(p.lasts)
}

func (p *plain) write(i int, s string) api.Errno {
	if p.dead {
		return api.ErrDead
	}
	if !p.has(i) || len(s) > 64 {
		return api.ErrSector
	}
	p.waits = append(p.waits, write{i, s})
	p.calls++
	if p.calls == p.order {
		p.crash(p.keep)
		return api.ErrDead
	}
	return api.OK
}

func (p *plain) flush() api.Errno {
	if p.dead {
		return api.ErrDead
	}
	p.calls++
	if p.calls == p.order {
		p.crash(p.keep)
		return api.ErrDead
	}
	for _, w := range p.waits {
		p.lasts[w.i] = w.s
	}
	p.waits = nil
	return api.OK
}

func (p *plain) read(i int) (string, api.Errno) {
	if p.dead {
		return "", api.ErrDead
	}
	if !p.has(i) {
		return "", api.ErrSector
	}
	if l := p.waiting(i); len(l) > 0 {
		return l[len(l)-1], api.OK
	}
	return p.lasts[i], api.OK
}

func (p *plain) cut(n int, keep uint64) {
	p.order, p.keep = -1, keep
	if n >= 1 && n < math.MaxInt-p.calls { // beyond that it never comes
		p.order = p.calls + n
	}
}

func (p *plain) crash(keep uint64) {
	if p.dead {
		return
	}
	p.dead = true
	j := 0
	for i := range p.lasts {
		l := p.waiting(i)
		if len(l) == 0 {
			continue
		}
		first, other := bit(keep, 2*(j%32)), bit(keep, 2*(j%32)+1)
		k := (first + 2*other) % (len(l) + 1)
		for _, s := range l[:k] {
			p.lasts[i] = s
		}
		j++
	}
	p.waits = nil
}

func bit(keep uint64, n int) int {
	for range n {
		keep /= 2
	}
	return int(keep % 2)
}

func (p *plain) power() {
	p.dead, p.order = false, -1
}

// made tells numbers that look like chance, and are the same each time.
type made uint64

func (m *made) below(n int) int {
	return int(m.word() >> 1 % uint64(n))
}

func (m *made) word() uint64 {
	*m = *m*6364136223846793005 + 1442695040888963407
	x := uint64(*m)
	x = (x ^ x>>29) * 0x9E3779B97F4A7C15
	return x ^ x>>32
}

func (m *made) text() string {
	b := make([]byte, m.below(65))
	for i := range b {
		b[i] = byte(m.below(256))
	}
	return string(b)
}

// outside are sectors that no disk has.
var outside = []int{-1, -2, -64, 512, 513, 9999, 1 << 32, -1 << 32, math.MaxInt, math.MinInt}

func reads(t *testing.T, d *block.Disk, i int, want string, wantE api.Errno) {
	t.Helper()
	if s, e := d.Read(i); s != want || e != wantE {
		t.Errorf("Read(%d): %q, %d, not %q, %d", i, s, e, want, wantE)
	}
}

func writes(t *testing.T, d *block.Disk, i int, s string, want api.Errno) {
	t.Helper()
	if e := d.Write(i, s); e != want {
		t.Errorf("Write(%d, %q): %d, not %d", i, s, e, want)
	}
}

func flushes(t *testing.T, d *block.Disk, want api.Errno) {
	t.Helper()
	if e := d.Flush(); e != want {
		t.Errorf("Flush: %d, not %d", e, want)
	}
}

// counts fails unless so many calls counted, and the power is as wanted.
func counts(t *testing.T, d *block.Disk, calls int, dead bool) {
	t.Helper()
	if d.Calls() != calls || d.Dead() != dead {
		t.Errorf("%d calls, dead %t, not %d, %t", d.Calls(), d.Dead(), calls, dead)
	}
}

// holds fails unless the disk tells of all that it can be asked what the plain one does.
func holds(t *testing.T, d *block.Disk, p *plain) {
	t.Helper()
	counts(t, d, p.calls, p.dead)
	if d.Size() != len(p.lasts) {
		t.Errorf("Size: %d, not %d", d.Size(), len(p.lasts))
	}
	for i := -1; i <= len(p.lasts); i++ {
		s, e := p.read(i)
		reads(t, d, i, s, e)
	}
}

// behind is a disk of 8 sectors for each of which these writes wait, and "old" lasts; it crashed, and has power again.
func behind(t *testing.T, keep uint64, waiting map[int][]string) *block.Disk {
	t.Helper()
	d := block.New(8)
	for i := range 8 {
		writes(t, d, i, "old", api.OK)
	}
	flushes(t, d, api.OK)
	for i, l := range waiting {
		for _, s := range l {
			writes(t, d, i, s, api.OK)
		}
	}
	d.Crash(keep)
	d.Power()
	return d
}

// P9.1: how many sectors there are.
func TestSize(t *testing.T) {
	for n := -20; n < 600; n++ {
		want := min(max(n, 8), 512)
		d := block.New(n)
		if d.Size() != want {
			t.Errorf("New(%d): %d sectors", n, d.Size())
		}
		writes(t, d, want-1, "x", api.OK)
		writes(t, d, want, "x", api.ErrSector)
		reads(t, d, want-1, "x", api.OK)
		reads(t, d, want, "", api.ErrSector)
	}
	for n, want := range map[int]int{math.MinInt: 8, -1 << 40: 8, 1 << 32: 512, 1<<32 + 20: 512, math.MaxInt: 512} {
		if got := block.New(n).Size(); got != want {
			t.Errorf("New(%d): %d sectors", n, got)
		}
	}
}

// P9.1: a new disk has power, and empty texts.
func TestNew(t *testing.T) {
	for _, n := range []int{0, 8, 20, 512} {
		holds(t, block.New(n), newPlain(n))
	}
}

// P9.2: what was written is read, ahead of a flush and behind it; each call that is answered OK counts but for reads.
func TestWrite(t *testing.T) {
	d := block.New(8)
	writes(t, d, 3, "a", api.OK)
	reads(t, d, 3, "a", api.OK)
	writes(t, d, 3, "b", api.OK)
	writes(t, d, 0, "", api.OK)
	writes(t, d, 7, "c", api.OK)
	writes(t, d, 3, "", api.OK) // the empty text is a write as any other
	reads(t, d, 3, "", api.OK)
	writes(t, d, 3, "d", api.OK)
	counts(t, d, 6, false)
	for range 2 {
		for i, want := range []string{"", "", "", "d", "", "", "", "c"} {
			reads(t, d, i, want, api.OK)
		}
		flushes(t, d, api.OK)
	}
	counts(t, d, 8, false)
	writes(t, d, 3, "e", api.OK)
	reads(t, d, 3, "e", api.OK)
	reads(t, d, 7, "c", api.OK)
	counts(t, d, 9, false)
}

// P9.2: what is refused does not count, and changes nothing.
func TestWriteRefused(t *testing.T) {
	d := block.New(9)
	writes(t, d, 0, "a", api.OK)
	long := strings.Repeat("x", 65)
	for _, i := range append([]int{9, 10, 64}, outside...) {
		writes(t, d, i, "", api.ErrSector)
		writes(t, d, i, "b", api.ErrSector)
		writes(t, d, i, long, api.ErrSector)
		reads(t, d, i, "", api.ErrSector)
	}
	for i := range 9 {
		writes(t, d, i, long, api.ErrSector)
		writes(t, d, i, strings.Repeat("x", 5000), api.ErrSector)
		writes(t, d, i, strings.Repeat("é", 33), api.ErrSector) // bytes count, not runes
	}
	counts(t, d, 1, false)
	flushes(t, d, api.OK)
	for i := range 9 {
		want := ""
		if i == 0 {
			want = "a"
		}
		reads(t, d, i, want, api.OK)
	}
}

// P9.2: each length that may be.
func TestWriteOfEachLength(t *testing.T) {
	for n := range 70 {
		d := block.New(8)
		s := strings.Repeat("\xff", n)
		if n > 64 {
			writes(t, d, 2, s, api.ErrSector)
			reads(t, d, 2, "", api.OK)
			continue
		}
		writes(t, d, 2, s, api.OK)
		reads(t, d, 2, s, api.OK)
		flushes(t, d, api.OK)
		reads(t, d, 2, s, api.OK)
		writes(t, d, 2, "a", api.OK) // nothing of the longer one is left
		flushes(t, d, api.OK)
		reads(t, d, 2, "a", api.OK)
	}
}

// P9.2: without power that is told ahead of all else, and nothing counts.
func TestDead(t *testing.T) {
	d := block.New(8)
	writes(t, d, 1, "a", api.OK)
	flushes(t, d, api.OK)
	d.Crash(0)
	for range 2 {
		counts(t, d, 2, true)
		if d.Size() != 8 {
			t.Error(d.Size())
		}
		flushes(t, d, api.ErrDead)
		for _, i := range append([]int{0, 1, 7, 8}, outside...) {
			reads(t, d, i, "", api.ErrDead)
			writes(t, d, i, "b", api.ErrDead)
			writes(t, d, i, strings.Repeat("x", 65), api.ErrDead)
		}
		d.Crash(math.MaxUint64) // nothing, as there is no power
	}
	d.Power()
	counts(t, d, 2, false)
	for i := range 8 {
		want := ""
		if i == 1 {
			want = "a"
		}
		reads(t, d, i, want, api.OK)
	}
}

// P9.3: by hand.
func TestCrashByHand(t *testing.T) {
	for _, x := range []struct {
		keep    uint64
		waiting map[int][]string
		want    string
	}{
		{0, nil, "old old old old old old old old"},
		{math.MaxUint64, nil, "old old old old old old old old"},
		{0, map[int][]string{3: {"a", "b"}}, "old old old old old old old old"},
		{1, map[int][]string{3: {"a", "b"}}, "old old old a old old old old"},
		{2, map[int][]string{3: {"a", "b"}}, "old old old b old old old old"},
		{3, map[int][]string{3: {"a", "b"}}, "old old old old old old old old"}, // three modulo three is none
		{1, map[int][]string{3: {"a"}}, "old old old a old old old old"},
		{2, map[int][]string{3: {"a"}}, "old old old old old old old old"},
		{3, map[int][]string{3: {"a"}}, "old old old a old old old old"},
		{3, map[int][]string{3: {"a", "b", "c"}}, "old old old c old old old old"},
		{3, map[int][]string{3: {"a", "b", "c", "d"}}, "old old old c old old old old"}, // the fourth one never lasts
		{2, map[int][]string{3: {"a", "b", "c", "d", "e", "f"}}, "old old old b old old old old"},
		{1 + 2<<2 + 3<<4, map[int][]string{0: {"a", "b"}, 4: {"c", "d"}, 7: {"e", "f", "g"}}, "a old old old d old old g"}, // by rising numbers, those alone for which some wait
		{1, map[int][]string{5: {"a"}, 6: {"b"}}, "old old old old old a old old"},
		{1 << 2, map[int][]string{5: {"a"}, 6: {"b"}}, "old old old old old old b old"},
		{1 << 4, map[int][]string{5: {"a"}, 6: {"b"}}, "old old old old old old old old"}, // bits of sectors that there are not
		{1 + 1<<2, map[int][]string{1: {"a", "old"}, 2: {"", "b"}}, "old a  old old old old old"},
	} {
		d := behind(t, x.keep, x.waiting)
		for i, want := range strings.Split(x.want, " ") {
			reads(t, d, i, want, api.OK)
		}
	}
}

// P9.3: which writes wait hangs on when they came, not on the order of their sectors.
func TestCrashOfMixedWrites(t *testing.T) {
	d := block.New(8)
	for _, w := range []write{{6, "a"}, {2, "b"}, {6, "c"}, {0, "d"}, {2, "e"}, {6, "f"}} {
		writes(t, d, w.i, w.s, api.OK)
	}
	d.Crash(1 + 1<<2 + 2<<4) // of 0 the first one, of 2 the first one, of 6 the second one
	d.Power()
	for i, want := range []string{"d", "", "b", "", "", "", "c", ""} {
		reads(t, d, i, want, api.OK)
	}
}

// P9.3: each number of writes that wait, with each two bits, at each place that two bits have; those of other places say nothing.
func TestCrashOfEachCount(t *testing.T) {
	for n := 1; n <= 9; n++ {
		for k := range 4 {
			for place := range 8 {
				for _, rest := range []uint64{0, math.MaxUint64} {
					d, p := block.New(8), newPlain(8)
					for i := range place + 1 {
						for w := range n {
							s := fmt.Sprint(i, "-", w)
							writes(t, d, i, s, p.write(i, s))
						}
					}
					keep := rest&^(3<<(2*place)) | uint64(k)<<(2*place)
					d.Crash(keep)
					p.crash(keep)
					d.Power()
					p.power()
					holds(t, d, p)
				}
			}
		}
	}
}

// P9.3: behind 32 sectors the bits come round again.
func TestCrashOfManySectors(t *testing.T) {
	m := made(1)
	for _, every := range []int{1, 2, 7} {
		for _, keep := range []uint64{0, 1, 2, 3, 1 << 62, 3 << 62, 1 << 63, 1 << 32, math.MaxUint64, 0x5555555555555555, 0xAAAAAAAAAAAAAAAA, 0xE4E4E4E4E4E4E4E4, m.word(), m.word()} {
			d, p := block.New(512), newPlain(512)
			for i := 511; i >= 0; i -= every {
				for n := range 1 + m.below(5) {
					s := fmt.Sprint(i, "-", n)
					writes(t, d, i, s, p.write(i, s))
				}
			}
			d.Crash(keep)
			p.crash(keep)
			d.Power()
			p.power()
			holds(t, d, p)
		}
	}
}

// P9.3: nothing waits behind a crash: neither a flush nor one more crash makes anything of it last.
func TestCrashForgets(t *testing.T) {
	for keep := range uint64(4) {
		d := behind(t, 0, map[int][]string{1: {"a", "b", "c"}})
		flushes(t, d, api.OK)
		reads(t, d, 1, "old", api.OK)
		writes(t, d, 1, "d", api.OK)
		d.Crash(keep)
		d.Power()
		want := "old"
		if keep%2 == 1 {
			want = "d"
		}
		reads(t, d, 1, want, api.OK)
	}
}

// P9.3: an order by hand: a write takes place ahead of the crash, a flush does not.
func TestCutByHand(t *testing.T) {
	d := behind(t, 0, nil)
	calls := d.Calls()
	d.Cut(1, 1)
	writes(t, d, 2, "a", api.ErrDead)
	counts(t, d, calls+1, true)
	d.Power()
	reads(t, d, 2, "a", api.OK)
	d.Cut(1, 0)
	writes(t, d, 2, "b", api.ErrDead)
	d.Power()
	reads(t, d, 2, "a", api.OK)
	d.Cut(2, 2)
	writes(t, d, 2, "c", api.OK)
	writes(t, d, 2, "d", api.ErrDead) // it is the second one that waits
	d.Power()
	reads(t, d, 2, "d", api.OK)
	d.Cut(3, 1<<2)
	writes(t, d, 2, "e", api.OK)
	writes(t, d, 5, "f", api.OK)
	flushes(t, d, api.ErrDead)
	counts(t, d, calls+7, true)
	d.Power()
	reads(t, d, 2, "d", api.OK)
	reads(t, d, 5, "f", api.OK)
	flushes(t, d, api.OK) // an order that was carried out is none any more
	writes(t, d, 5, "g", api.OK)
	counts(t, d, calls+9, false)
}

// P9.3: each n: calls up to it are answered as ever, and those that don't count bring it no nearer.
func TestCutOfEachCount(t *testing.T) {
	for n := 1; n < 30; n++ {
		d, p := block.New(8), newPlain(8)
		writes(t, d, 0, "ahead", p.write(0, "ahead"))
		d.Cut(n, uint64(n)*0x9E3779B97F4A7C15)
		p.cut(n, uint64(n)*0x9E3779B97F4A7C15)
		for call := range n {
			d.Read(0)
			d.Read(8)
			d.Write(8, "x")
			d.Write(0, strings.Repeat("x", 65))
			d.Size()
			d.Dead()
			counts(t, d, call+1, false)
			if call%5 == 4 {
				flushes(t, d, p.flush())
				continue
			}
			s := fmt.Sprint(call)
			writes(t, d, call%3, s, p.write(call%3, s))
		}
		counts(t, d, n+1, true)
		holds(t, d, p)
		d.Power()
		p.power()
		holds(t, d, p)
	}
}

// P9.3: an order comes in the place of an elder one; it is none, if n is below 1, and never comes, if n is great.
func TestCutAgain(t *testing.T) {
	for _, elder := range []int{1, 2, 3} {
		for _, n := range []int{0, -1, -5, math.MinInt, math.MaxInt, math.MaxInt - 1, 1 << 32, 1<<32 + 1} {
			d := block.New(8)
			writes(t, d, 0, "a", api.OK)
			d.Cut(elder, 0)
			d.Cut(n, 0)
			for range 5 {
				writes(t, d, 0, "b", api.OK)
				flushes(t, d, api.OK)
			}
			counts(t, d, 11, false)
		}
	}
	d := behind(t, 0, nil)
	d.Cut(1, 0)
	d.Cut(3, 0)
	writes(t, d, 0, "a", api.OK)
	d.Cut(2, 1)
	writes(t, d, 0, "b", api.OK) // the third call of the elder order would be the next one too, with what it keeps
	writes(t, d, 0, "c", api.ErrDead)
	d.Power()
	reads(t, d, 0, "a", api.OK)
	d.Cut(5, 0)
	d.Cut(1, 1)
	writes(t, d, 0, "d", api.ErrDead)
	d.Power()
	reads(t, d, 0, "d", api.OK)
}

// P9.4: behind Power no order is there, whether the power was gone or not; what waits goes on waiting, if it was not.
func TestPower(t *testing.T) {
	d := behind(t, 0, nil)
	calls := d.Calls()
	writes(t, d, 0, "a", api.OK)
	d.Cut(1, 0)
	d.Power()
	counts(t, d, calls+1, false)
	reads(t, d, 0, "a", api.OK)
	flushes(t, d, api.OK)
	d.Crash(0)
	d.Cut(1, 0) // without power an order is taken, and gone with Power
	d.Power()
	reads(t, d, 0, "a", api.OK)
	writes(t, d, 0, "b", api.OK)
	d.Cut(2, 0)
	d.Crash(1) // the order is still there, and gone with Power
	d.Power()
	for range 4 {
		writes(t, d, 0, "c", api.OK)
	}
	writes(t, d, 1, "d", api.OK)
	d.Power()
	d.Crash(1 << 2)
	d.Power()
	reads(t, d, 0, "b", api.OK)
	reads(t, d, 1, "d", api.OK)
	counts(t, d, calls+8, false)
}

// step does the same to both, whatever chance tells, and holds the answers against each other.
func step(t *testing.T, m *made, d *block.Disk, p *plain) {
	t.Helper()
	size := len(p.lasts)
	switch m.below(40) {
	case 0:
		keep := m.word()
		d.Crash(keep)
		p.crash(keep)
	case 1:
		n, keep := m.below(12)-1, m.word()
		d.Cut(n, keep)
		p.cut(n, keep)
	case 2, 3:
		d.Power()
		p.power()
	case 4, 5:
		flushes(t, d, p.flush())
	case 6:
		i := outside[m.below(len(outside))]
		writes(t, d, i, "x", p.write(i, "x"))
		s, e := p.read(i)
		reads(t, d, i, s, e)
	case 7:
		s := m.text() + m.text()
		writes(t, d, size-1, s, p.write(size-1, s))
	case 8, 9:
		i := m.below(size+4) - 2
		s, e := p.read(i)
		reads(t, d, i, s, e)
	default:
		i := m.below(size)
		if m.below(3) > 0 { // so that many wait for one
			i %= 4
		}
		s := m.text()
		writes(t, d, i, s, p.write(i, s))
	}
	counts(t, d, p.calls, p.dead)
}

// P9.1 to P9.4: whatever calls.
func TestWhatever(t *testing.T) {
	m := made(2)
	for _, size := range []int{8, 9, 33, 70, 512} {
		d, p := block.New(size), newPlain(size)
		for range 30 {
			for range 100 {
				step(t, &m, d, p)
			}
			holds(t, d, p)
			d.Power()
			p.power()
			holds(t, d, p)
		}
	}
}

// P9.5: what was flushed lasts till something is written there again; behind a crash each sector is as it lasted, or as one of the writes has it that waited.
func TestWhatLasts(t *testing.T) {
	m := made(3)
	d := block.New(40)
	var may [40][]string // what each one may be behind a crash
	for i := range may {
		may[i] = []string{""}
	}
	for range 300 {
		for range m.below(60) {
			i, s := m.below(40), m.text()
			writes(t, d, i, s, api.OK)
			may[i] = append(may[i], s)
		}
		if m.below(2) == 0 {
			flushes(t, d, api.OK)
			for i := range may {
				may[i] = may[i][len(may[i])-1:]
			}
		}
		d.Crash(m.word())
		d.Power()
		for i := range may {
			s, e := d.Read(i)
			if e != api.OK || !slices.Contains(may[i], s) {
				t.Fatalf("%d is %q, none of %q", i, s, may[i])
			}
			may[i] = []string{s}
		}
	}
}

// P9.3: of many writes that wait for one sector the first three may last; the last one is read, and flushed.
func TestManyWrites(t *testing.T) {
	for k, want := range []string{"old", "0", "1", "2"} {
		d := behind(t, 0, nil)
		for i := range 5000 {
			writes(t, d, 4, fmt.Sprint(i), api.OK)
		}
		reads(t, d, 4, "4999", api.OK)
		d.Crash(uint64(k))
		d.Power()
		reads(t, d, 4, want, api.OK)
		for i := range 5000 {
			writes(t, d, 4, fmt.Sprint(i), api.OK)
		}
		flushes(t, d, api.OK)
		d.Crash(math.MaxUint64)
		d.Power()
		reads(t, d, 4, "4999", api.OK)
	}
}

// R3: two disks have nothing in common.
func TestTwoDisks(t *testing.T) {
	a, b := block.New(8), block.New(8)
	writes(t, a, 1, "a", api.OK)
	flushes(t, a, api.OK)
	writes(t, a, 2, "b", api.OK)
	a.Cut(1, 0)
	holds(t, b, newPlain(8))
	flushes(t, b, api.OK)
	reads(t, a, 2, "b", api.OK)
	a.Crash(0)
	counts(t, b, 1, false)
	b.Power()
	counts(t, a, 3, true)
	reads(t, b, 1, "", api.OK)
}

// shares tells whether two texts that are not empty begin at one place in memory.
func shares(a, b string) bool {
	return unsafe.StringData(a) == unsafe.StringData(b)
}

// R3: what is handed in is not kept, and an answer is new memory, while it waits and when it lasts.
func TestNewMemory(t *testing.T) {
	b := []byte("abc")
	d := block.New(8)
	writes(t, d, 0, unsafe.String(&b[0], len(b)), api.OK)
	for range 2 {
		copy(b, "xyz")
		reads(t, d, 0, "abc", api.OK)
		one, _ := d.Read(0)
		other, _ := d.Read(0)
		if shares(one, other) {
			t.Error("two answers share memory")
		}
		clear(unsafe.Slice(unsafe.StringData(one), len(one)))
		reads(t, d, 0, "abc", api.OK)
		if other != "abc" {
			t.Error("two answers share memory")
		}
		flushes(t, d, api.OK)
	}
}

// R5: the same calls on a new disk answer the same, however often.
func TestAgain(t *testing.T) {
	for range 20 {
		m := made(4)
		d, p := block.New(100), newPlain(100)
		for range 200 {
			step(t, &m, d, p)
		}
		d.Power()
		p.power()
		holds(t, d, p)
	}
}
