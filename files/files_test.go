package files_test

import (
	"encoding/binary"
	"fmt"
	"maps"
	"math"
	"slices"
	"strings"
	"testing"
	"unsafe"

	"strandline/api"
	"strandline/block"
	"strandline/files"
)

type write struct {
	i int
	s string
}

// plain is a store by the chapter's words, and what its disk holds.
type plain struct {
	gen       int
	there     map[string]string
	lasts     map[string]string
	where     map[string][]int // the sectors of what lasts
	directory []int
	disk      []string
}

func newPlain(size int) *plain {
	return &plain{there: map[string]string{}, lasts: map[string]string{}, where: map[string][]int{}, disk: make([]string, size)}
}

// cut cuts a text into chunks.
func cut(s string) []string {
	var l []string
	for len(s) > 64 {
		l = append(l, s[:64])
		s = s[64:]
	}
	if s != "" {
		l = append(l, s)
	}
	return l
}

func numbers(l ...int) string {
	var b []byte
	for _, n := range l {
		b = binary.AppendUvarint(b, uint64(n))
	}
	return string(b)
}

// sync is what a Sync of these files writes, and what there would be then.
type sync struct {
	writes    []write // but the root
	root      write
	where     map[string][]int
	directory []int
	u, k      int // the directory's chunks, and the sectors that last
	c, r      int
}

// lowest is the lowest sector that does not last and was not taken; -1, if there is none.
func (p *plain) lowest(taken map[int]bool) int {
	for i := 2; i < len(p.disk); i++ {
		lasts := slices.Contains(p.directory, i)
		for _, l := range p.where {
			lasts = lasts || slices.Contains(l, i)
		}
		if !lasts && !taken[i] {
			taken[i] = true
			return i
		}
	}
	return -1
}

func (p *plain) sync(there map[string]string) sync {
	x := sync{where: map[string][]int{}, u: len(p.directory)}
	for _, l := range p.where {
		x.u += len(l)
	}
	taken := map[int]bool{}
	list := numbers(len(there))
	for _, name := range slices.Sorted(maps.Keys(there)) {
		elder := cut(p.lasts[name])
		list += numbers(len(name)) + name + numbers(len(there[name]))
		for i, s := range cut(there[name]) {
			x.c++
			at := 0
			if i < len(elder) && elder[i] == s {
				x.r++
				at = p.where[name][i]
			} else {
				at = p.lowest(taken)
				x.writes = append(x.writes, write{at, s})
			}
			x.where[name] = append(x.where[name], at)
			list += numbers(max(at, 0))
		}
	}
	for _, s := range cut(list) {
		x.k++
		at := p.lowest(taken)
		x.directory = append(x.directory, at)
		x.writes = append(x.writes, write{at, s})
	}
	x.root = write{(p.gen + 1) % 2, numbers(p.gen+1, len(list)) + numbers(x.directory...)}
	return x
}

func (p *plain) fits(there map[string]string) bool {
	x, room := p.sync(there), len(p.disk)-2
	return x.k <= 20 && x.c-x.r+x.k <= room-x.u && x.c+2*x.k <= room
}

func (p *plain) free() int {
	x := p.sync(p.there)
	return len(p.disk) - 2 - x.u - (x.c - x.r + x.k)
}

func (p *plain) change(there map[string]string) api.Errno {
	if !p.fits(there) {
		return api.ErrSpace
	}
	p.there = there
	return api.OK
}

func named(name string) bool {
	return len(name) >= 1 && len(name) <= 16 && strings.Trim(name, "abcdefghijklmnopqrstuvwxyz0123456789.-") == ""
}

func (p *plain) write(name, data string) api.Errno {
	if !named(name) {
		return api.ErrName
	}
	there := maps.Clone(p.there)
	there[name] = data
	return p.change(there)
}

func (p *plain) delete(name string) api.Errno {
	if !named(name) {
		return api.ErrName
	}
	if _, found := p.there[name]; !found {
		return api.ErrNone
	}
	there := maps.Clone(p.there)
	delete(there, name)
	return p.change(there)
}

func (p *plain) rename(from, to string) api.Errno {
	if !named(from) || !named(to) {
		return api.ErrName
	}
	data, found := p.there[from]
	if !found {
		return api.ErrNone
	}
	there := maps.Clone(p.there)
	delete(there, from)
	there[to] = data
	return p.change(there)
}

// synced is what the disk holds behind a Sync; it tells how many calls of the disk it took.
func (p *plain) synced() int {
	if maps.Equal(p.there, p.lasts) {
		return 0
	}
	x := p.sync(p.there)
	for _, w := range append(x.writes, x.root) {
		p.disk[w.i] = w.s
	}
	p.gen++
	p.lasts, p.where, p.directory = p.there, x.where, x.directory
	return len(x.writes) + 3
}

// made tells numbers that look like chance, and are the same each time.
type made uint64

func (m *made) below(n int) int {
	return int(m.word() >> 1 % uint64(n))
}

func (m *made) word() uint64 {
	*m = *m*6364136223846793005 + 1442695040888963407
	x := uint64(*m)
	x = (x ^ x>>29) * 0x9E3779B97F4A7C15
	return x ^ x>>32
}

// text has below n bytes.
func (m *made) text(n int) string {
	b := make([]byte, m.below(n))
	for i := range b {
		b[i] = byte(m.below(256))
	}
	return string(b)
}

// is fails unless e is the error that is wanted.
func is(t *testing.T, e, want api.Errno) {
	t.Helper()
	if e != want {
		t.Errorf("error %d, not %d", e, want)
	}
}

func open(t *testing.T, d *block.Disk) *files.Store {
	t.Helper()
	s, e := files.Open(d)
	if e != api.OK || s == nil {
		t.Fatalf("Open: %d", e)
	}
	return s
}

// has fails unless these files are there, and no other ones.
func has(t *testing.T, s *files.Store, want map[string]string) {
	t.Helper()
	names := slices.Sorted(maps.Keys(want))
	if got := s.Names(); !slices.Equal(got, names) {
		t.Errorf("Names: %q, not %q", got, names)
	}
	for _, name := range names {
		if data, found := s.Read(name); data != want[name] || !found {
			t.Errorf("Read(%q): %q, %t, not %q", name, data, found, want[name])
		}
	}
	for _, name := range []string{"", "none", "A", "a\x00", strings.Repeat("n", 17)} {
		if data, found := s.Read(name); data != "" || found {
			t.Errorf("Read(%q): %q, %t", name, data, found)
		}
	}
}

// holds fails unless the store, and its disk, are as the plain ones.
func holds(t *testing.T, s *files.Store, d *block.Disk, p *plain) {
	t.Helper()
	has(t, s, p.there)
	if s.Gen() != p.gen || s.Free() != p.free() {
		t.Errorf("Gen %d, Free %d, not %d, %d", s.Gen(), s.Free(), p.gen, p.free())
	}
	lies(t, d, p.disk)
}

// lies fails unless the disk holds these texts.
func lies(t *testing.T, d *block.Disk, want []string) {
	t.Helper()
	for i := range want {
		if s, e := d.Read(i); s != want[i] || e != api.OK {
			t.Errorf("sector %d: %q, %d, not %q", i, s, e, want[i])
		}
	}
}

// lay writes texts into sectors, and flushes.
func lay(t *testing.T, d *block.Disk, texts map[int]string) {
	t.Helper()
	for i, s := range texts {
		is(t, d.Write(i, s), api.OK)
	}
	is(t, d.Flush(), api.OK)
}

var hundred = strings.Repeat("x", 50) + strings.Repeat("y", 50)

// P10.1: the bytes, by hand.
func TestBytes(t *testing.T) {
	d := block.New(12)
	s := open(t, d)
	is(t, s.Write("b.-9", "hi"), api.OK)
	is(t, s.Write("a", hundred), api.OK)
	is(t, s.Write("c", ""), api.OK)
	is(t, s.Sync(), api.OK)
	first := []string{"", "\x01\x10\x05", hundred[:64], hundred[64:], "hi", "\x03\x01a\x64\x02\x03\x04b.-9\x02\x04\x01c\x00", "", "", "", "", "", ""}
	lies(t, d, first)
	is(t, s.Append("a", "z"), api.OK) // of a the first chunk is reused, of b all of them
	is(t, s.Delete("c"), api.OK)
	is(t, s.Sync(), api.OK)
	second := slices.Clone(first)
	second[0], second[6], second[7] = "\x02\x0d\x07", hundred[64:]+"z", "\x02\x01a\x65\x02\x06\x04b.-9\x02\x04"
	lies(t, d, second)
	is(t, s.Rename("b.-9", "b"), api.OK) // nothing of it is reused: another name lasts
	is(t, s.Sync(), api.OK)
	third := slices.Clone(second)
	third[1], third[3], third[5] = "\x03\x0a\x05", "hi", "\x02\x01a\x65\x02\x06\x01b\x02\x03"
	lies(t, d, third)
	is(t, s.Delete("a"), api.OK)
	is(t, s.Delete("b"), api.OK)
	is(t, s.Sync(), api.OK)
	fourth := slices.Clone(third)
	fourth[0], fourth[4] = "\x04\x01\x04", "\x00"
	lies(t, d, fourth)
	u := open(t, d)
	has(t, u, nil)
	if u.Gen() != 4 || u.Free() != 8 {
		t.Error(u.Gen(), u.Free())
	}
}

// crafted is a right root in the sector 1, and what it names.
func crafted() map[int]string {
	return map[int]string{
		1: "\x03\x0a\x05",
		2: hundred[:64],
		3: hundred[64:],
		4: "hi!",
		5: "\x02\x01a\x64\x02\x03\x01b\x03\x04",
	}
}

// with is crafted with some sectors changed; the directory's bytes in the root are those that it has then.
func with(texts map[int]string) map[int]string {
	l := crafted()
	maps.Copy(l, texts)
	if list, changed := texts[5]; changed && texts[1] == "" {
		l[1] = numbers(3, len(list), 5)
	}
	return l
}

// elder lays a right root of generation 2 into the sector 0, or of 1 into the sector 1, and what it names.
func elder(t *testing.T, d *block.Disk, g int) {
	t.Helper()
	gen := 2 - g
	lay(t, d, map[int]string{g: numbers(gen, 5, 10), 10: "\x01\x01o\x01\x0b", 11: "!"})
}

// P10.1, P10.2: roots that are right.
func TestRight(t *testing.T) {
	both := map[string]string{"a": hundred, "b": "hi!"}
	for i, x := range []struct {
		texts map[int]string
		gen   int
		want  map[string]string
	}{
		{crafted(), 3, both},
		{with(map[int]string{6: "\x00", 7: hundred[:64]}), 3, both}, // sectors that nobody names
		{with(map[int]string{1: "\xff\xff\xff\xff\xff\xff\xff\xff\x0f\x0a\x05"}), 1<<60 - 1, both},
		{with(map[int]string{1: "", 0: numbers(1<<60, 10, 5)}), 1 << 60, both}, // the greatest one
		{with(map[int]string{1: "\x01\x0a\x05"}), 1, both},                     // the least one
		{with(map[int]string{2: hundred[64:], 3: hundred[:64], 5: "\x02\x01a\x64\x03\x02\x01b\x03\x04"}), 3, both},
		{with(map[int]string{1: "\x03\x0a\x13", 19: crafted()[5], 5: ""}), 3, both}, // the last sector
		{with(map[int]string{5: "\x00"}), 3, nil},
		{with(map[int]string{5: "\x01\x01a\x00"}), 3, map[string]string{"a": ""}},
		{with(map[int]string{5: "\x03\x01-\x00\x10abcdefghijklmnop\x00\x02zz\x03\x04"}), 3, map[string]string{"-": "", "abcdefghijklmnop": "", "zz": "hi!"}},
		{with(map[int]string{5: "\x05\x01-\x00\x01.\x00\x010\x00\x019\x00\x01z\x03\x04"}), 3, map[string]string{"-": "", ".": "", "0": "", "9": "", "z": "hi!"}},
		{with(map[int]string{5: "\x02\x01a\x00\x02aa\x03\x04"}), 3, map[string]string{"a": "", "aa": "hi!"}},
		{with(map[int]string{3: hundred[:64], 5: "\x01\x01a\x80\x01\x02\x03"}), 3, map[string]string{"a": hundred[:64] + hundred[:64]}},
	} {
		d := block.New(20)
		lay(t, d, x.texts)
		calls := d.Calls()
		s := open(t, d)
		has(t, s, x.want)
		if s.Gen() != x.gen || d.Calls() != calls {
			t.Errorf("%d: Gen %d, not %d; %d calls", i, s.Gen(), x.gen, d.Calls()-calls)
		}
	}
}

// big is a number whose zig.Uint is as long as can be, and whose lowest bits are n.
func big(bits int, n uint64) string {
	return string(binary.AppendUvarint(nil, 1<<bits+n))
}

// wrongs are roots that are not right, each for one thing alone.
func wrongs() []map[int]string {
	return []map[int]string{
		// the root
		with(map[int]string{1: ""}),
		with(map[int]string{1: "\x03"}),
		with(map[int]string{1: "\x03\x0a"}),
		with(map[int]string{1: "\x03\x0a\x85"}),
		with(map[int]string{1: "\x03\x0a\x05\x00"}),
		with(map[int]string{1: "\x03\x0a\x05\x06"}),
		with(map[int]string{1: "\x83\x00\x0a\x05"}), // not zig.Uint
		with(map[int]string{1: "\x03\x8a\x00\x05"}),
		with(map[int]string{1: "\x03\x0a\x85\x00"}),
		with(map[int]string{1: "\x02\x0a\x05"}), // generations
		with(map[int]string{1: "\x04\x0a\x05"}),
		with(map[int]string{1: "\x00\x0a\x05"}),
		with(map[int]string{1: numbers(1<<60+1, 10, 5)}),
		with(map[int]string{1: big(63, 3) + "\x0a\x05"}),
		with(map[int]string{1: big(62, 3) + "\x0a\x05"}),
		with(map[int]string{1: big(32, 2) + "\x0a\x05"}),
		with(map[int]string{1: "\x03\x09\x05"}), // the directory's bytes
		with(map[int]string{1: "\x03\x0b\x05"}),
		with(map[int]string{1: "\x03\x00"}),
		with(map[int]string{1: "\x03\x00\x05"}),
		with(map[int]string{1: numbers(3, 74, 6, 5), 6: listOf(74)[:63], 5: listOf(74)[63:]}),
		with(map[int]string{1: "\x03" + big(63, 10) + "\x05"}),
		with(map[int]string{1: "\x03" + big(32, 10) + "\x05"}),
		with(map[int]string{1: "\x03\x0a\x06"}), // its sectors
		with(map[int]string{1: "\x03\x0a\x00", 0: crafted()[5]}),
		with(map[int]string{1: "\x03\x0a\x14"}),
		with(map[int]string{1: "\x03\x0a" + numbers(1<<32+5)}),
		with(map[int]string{1: "\x03\x0a" + big(63, 5)}),
		with(map[int]string{1: "\x03\x0a" + numbers(512)}),
		with(map[int]string{1: "\x03\x0a" + numbers(math.MaxInt)}),
		with(map[int]string{1: "\x03\x0a\x05", 5: "\x00"}),
		// the directory
		with(map[int]string{5: "\x02\x01a\x64\x02\x03\x01b\x03\x04\x00"}),
		with(map[int]string{5: "\x02\x01a\x64\x02\x03\x01b\x03\x84\x00"}),
		with(map[int]string{5: "\x02\x01a\x64\x02\x03\x01b\x83\x00\x04"}),
		with(map[int]string{5: "\x02\x81\x00a\x64\x02\x03\x01b\x03\x04"}),
		with(map[int]string{5: "\x82\x00\x01a\x64\x02\x03\x01b\x03\x04"}),
		with(map[int]string{5: "\x02\x01a\x64\x02\x03\x01b\x03"}),
		with(map[int]string{5: "\x02\x01a\x64\x02\x03\x01b"}),
		with(map[int]string{5: "\x02\x01a\x64\x02\x03\x01"}),
		with(map[int]string{5: "\x02\x01a\x64\x02\x03"}),
		with(map[int]string{5: "\x01\x01a\x64\x02\x03\x01b\x03\x04"}),
		with(map[int]string{5: "\x03\x01a\x64\x02\x03\x01b\x03\x04"}),
		with(map[int]string{5: "\x00\x00"}),
		with(map[int]string{5: "\x80"}),
		with(map[int]string{5: big(63, 2) + "\x01a\x64\x02\x03\x01b\x03\x04"}),
		with(map[int]string{5: big(32, 2) + "\x01a\x64\x02\x03\x01b\x03\x04"}),
		// names
		with(map[int]string{5: "\x02\x01b\x64\x02\x03\x01a\x03\x04"}),
		with(map[int]string{5: "\x02\x01a\x64\x02\x03\x01a\x03\x04"}),
		with(map[int]string{5: "\x02\x02aa\x64\x02\x03\x01a\x03\x04"}),
		with(map[int]string{5: "\x02\x00\x64\x02\x03\x01b\x03\x04"}),
		with(map[int]string{5: "\x02\x01a\x64\x02\x03\x00\x03\x04"}),
		with(map[int]string{5: "\x02\x01A\x64\x02\x03\x01b\x03\x04"}),
		with(map[int]string{5: "\x02\x01a\x64\x02\x03\x01_\x03\x04"}),
		with(map[int]string{5: "\x02\x01a\x64\x02\x03\x01{\x03\x04"}),
		with(map[int]string{5: "\x01\x01/\x03\x04"}),
		with(map[int]string{5: "\x01\x01:\x03\x04"}),
		with(map[int]string{5: "\x01\x01,\x03\x04"}),
		with(map[int]string{5: "\x01\x01`\x03\x04"}),
		with(map[int]string{5: "\x01\x01\x00\x03\x04"}),
		with(map[int]string{5: "\x01\x02\xc3\xa9\x03\x04"}),
		with(map[int]string{5: "\x01\x11" + strings.Repeat("a", 17) + "\x03\x04"}),
		with(map[int]string{5: "\x01\x63a\x03\x04"}),
		with(map[int]string{5: "\x01" + big(63, 1) + "a\x03\x04"}),
		// the files' sectors
		with(map[int]string{5: "\x02\x01a\x64\x02\x03\x01b\x03\x03"}),
		with(map[int]string{5: "\x02\x01a\x64\x02\x03\x01b\x03\x05"}),
		with(map[int]string{1: "\x03\x0a\x05", 3: "hi!", 5: "\x02\x01a\x64\x02\x04\x01b\x03\x04"}),
		with(map[int]string{5: "\x01\x01a\x80\x01\x02\x02"}),
		with(map[int]string{5: "\x02\x01a\x24\x03\x01b\x24\x03"}),
		with(map[int]string{5: "\x02\x01a\x64\x02\x03\x01b\x03\x01"}), // the root has three bytes, too
		with(map[int]string{0: "hi!", 5: "\x02\x01a\x64\x02\x03\x01b\x03\x00"}),
		with(map[int]string{5: "\x02\x01a\x64\x02\x03\x01b\x03\x14"}),
		with(map[int]string{5: "\x02\x01a\x64\x02\x03\x01b\x03" + numbers(1<<32+4)}),
		with(map[int]string{5: "\x02\x01a\x64\x02\x03\x01b\x03" + big(63, 4)}),
		// their bytes
		with(map[int]string{4: "hi"}),
		with(map[int]string{4: "hi!!"}),
		with(map[int]string{4: ""}),
		with(map[int]string{2: hundred[:63]}),
		with(map[int]string{2: hundred[:63], 3: hundred[63:]}),
		with(map[int]string{3: hundred[:64]}),
		with(map[int]string{3: hundred[:35]}),
		with(map[int]string{3: hundred[:37]}),
		with(map[int]string{5: "\x02\x01a\x40\x02\x03\x01b\x03\x04"}), // a sector more than chunks
		with(map[int]string{5: "\x02\x01a\x64\x02\x01b\x03\x04"}),
		with(map[int]string{5: "\x02\x01a\x64\x02\x03\x01b\x00\x04"}),
		with(map[int]string{5: "\x02\x01a\x64\x02\x03\x01b" + big(63, 3) + "\x04"}),
		with(map[int]string{5: "\x02\x01a\x64\x02\x03\x01b" + big(32, 3) + "\x04"}),
		with(map[int]string{5: "\x01\x01b" + big(63, 0)}), // no sectors at all
		with(map[int]string{5: "\x01\x01b" + big(63, 3)}),
		with(map[int]string{5: "\x01\x01b" + big(32, 0)}),
		with(map[int]string{5: "\x01\x01b" + numbers(64*512)}),
		with(map[int]string{5: "\x01\x01b" + numbers(64*512+1)}),
		with(map[int]string{5: "\x01\x01b" + string(binary.AppendUvarint(nil, math.MaxUint64)) + "\x04"}),
		with(map[int]string{5: "\x01\x01b" + string(binary.AppendUvarint(nil, math.MaxUint64-60)) + "\x04"}),
	}
}

// P10.1, P10.2: roots that are not right are as if they were not there.
func TestWrong(t *testing.T) {
	for i, texts := range wrongs() {
		d := block.New(20)
		lay(t, d, texts)
		s := open(t, d)
		has(t, s, nil)
		if s.Gen() != 0 || s.Free() != 17 {
			t.Errorf("%d: Gen %d, Free %d", i, s.Gen(), s.Free())
		}
		if texts[0] != "" {
			continue
		}
		elder(t, d, 0)
		s = open(t, d)
		has(t, s, map[string]string{"o": "!"})
		if s.Gen() != 2 {
			t.Errorf("%d: Gen %d, not that of the elder root", i, s.Gen())
		}
	}
}

// P10.1: a sector that the greatest disk has, and those that it has not.
func TestLastSector(t *testing.T) {
	for i, want := range map[int]int{511: 1, 512: 0, 513: 0, 1024: 0, 1<<32 + 511: 0} {
		d := block.New(512)
		lay(t, d, map[int]string{1: numbers(1, 1, i), 511: "\x00"})
		if s := open(t, d); s.Gen() != want {
			t.Errorf("sector %d: Gen %d", i, s.Gen())
		}
		list := "\x01\x01a\x01" + numbers(i)
		lay(t, d, map[int]string{1: numbers(1, len(list), 2), 2: list})
		if s := open(t, d); s.Gen() != want {
			t.Errorf("sector %d of a file: Gen %d", i, s.Gen())
		}
	}
}

// P10.1: of the sector 0 generations are even, of the sector 1 they are odd.
func TestParity(t *testing.T) {
	for gen := range 9 {
		for g := range 2 {
			d := block.New(20)
			lay(t, d, map[int]string{g: numbers(gen, 1, 5), 5: "\x00"})
			want := 0
			if gen%2 == g {
				want = gen
			}
			if s := open(t, d); s.Gen() != want {
				t.Errorf("Gen %d of %d in %d", s.Gen(), gen, g)
			}
		}
	}
	for _, gen := range []uint64{1<<60 + 2, 1<<60 + 1<<20, 1 << 61, 1 << 63, math.MaxUint64 - 1} {
		d := block.New(20)
		lay(t, d, map[int]string{0: string(binary.AppendUvarint(nil, gen)) + "\x01\x05", 5: "\x00"})
		elder(t, d, 1)
		s := open(t, d)
		has(t, s, map[string]string{"o": "!"})
		if s.Gen() != 1 {
			t.Error(gen, s.Gen())
		}
	}
}

// P10.2: of two right roots that of the greater generation; they may name the same sectors.
func TestGreater(t *testing.T) {
	for even := 2; even < 12; even += 2 {
		for odd := 1; odd < 12; odd += 2 {
			d := block.New(20)
			lay(t, d, map[int]string{0: numbers(even, 5, 5), 1: numbers(odd, 5, 6), 5: "\x01\x01e\x01\x07", 6: "\x01\x01o\x01\x07", 7: "!"})
			want := map[string]string{"e": "!"}
			if odd > even {
				want = map[string]string{"o": "!"}
			}
			s := open(t, d)
			has(t, s, want)
			if s.Gen() != max(even, odd) {
				t.Error(s.Gen())
			}
		}
	}
	d := block.New(20)
	lay(t, d, map[int]string{0: numbers(1<<60, 1, 5), 1: numbers(1<<60-1, 5, 6), 5: "\x00", 6: "\x01\x01o\x01\x07", 7: "!"})
	if s := open(t, d); s.Gen() != 1<<60 {
		t.Error(s.Gen())
	}
}

// listOf is a directory of so many bytes: files without bytes, and a last one whose name fills it up.
func listOf(bytes int) string {
	count := (bytes - 4) / 16
	rest := bytes - 1 - 16*count // 3 to 18
	l := numbers(count + 1)
	for i := range count {
		l += fmt.Sprintf("\x0ea%013d\x00", i)
	}
	return l + numbers(rest-2) + strings.Repeat("z", rest-2) + "\x00"
}

// P10.1: a directory of 20 chunks is right, one of 21 is not.
func TestGreatDirectory(t *testing.T) {
	for _, x := range []struct {
		bytes, gen int
	}{{64, 1}, {65, 1}, {128, 1}, {20*64 - 1, 1}, {20 * 64, 1}, {20*64 + 1, 0}, {21 * 64, 0}} {
		d := block.New(60)
		list := listOf(x.bytes)
		root := numbers(1, len(list))
		for i, s := range cut(list) {
			is(t, d.Write(50-2*i, s), api.OK)
			root += numbers(50 - 2*i)
		}
		is(t, d.Write(1, root), api.OK)
		s := open(t, d)
		names := 0
		if x.gen > 0 {
			names = int(list[0])
		}
		if s.Gen() != x.gen || len(s.Names()) != names {
			t.Errorf("%d bytes: Gen %d, %d names", x.bytes, s.Gen(), len(s.Names()))
		}
	}
}

// P10.2: what waits on the disk is read, as what lasts is.
func TestOpenWhatWaits(t *testing.T) {
	d := block.New(20)
	for i, s := range crafted() {
		is(t, d.Write(i, s), api.OK)
	}
	has(t, open(t, d), map[string]string{"a": hundred, "b": "hi!"})
}

// P10.2: without power there is none.
func TestOpenDead(t *testing.T) {
	d := block.New(20)
	lay(t, d, crafted())
	d.Crash(0)
	if s, e := files.Open(d); s != nil || e != api.ErrDead {
		t.Error(s, e)
	}
	d.Power()
	if s := open(t, d); s.Gen() != 3 {
		t.Error(s.Gen())
	}
}

// P10.2: a new disk of each size.
func TestOpenNew(t *testing.T) {
	for size := 8; size <= 512; size += 7 {
		d := block.New(size)
		s := open(t, d)
		holds(t, s, d, newPlain(size))
		is(t, s.Sync(), api.OK) // no files are what lasts
		if s.Free() != size-3 || s.Gen() != 0 || d.Calls() != 0 {
			t.Error(size, s.Free(), s.Gen(), d.Calls())
		}
	}
}

// P10.3, P10.4: by hand.
func TestChanges(t *testing.T) {
	d := block.New(30)
	s := open(t, d)
	is(t, s.Append("b", "1"), api.OK) // of none
	is(t, s.Append("b", "2"), api.OK)
	is(t, s.Append("b", ""), api.OK)
	is(t, s.Append("e", ""), api.OK)
	has(t, s, map[string]string{"b": "12", "e": ""})
	is(t, s.Write("b", "3"), api.OK)
	is(t, s.Write("c", "\x00\xff"), api.OK)
	is(t, s.Write("10", hundred), api.OK)
	has(t, s, map[string]string{"10": hundred, "b": "3", "c": "\x00\xff", "e": ""})
	is(t, s.Rename("b", "c"), api.OK) // in the place of one that there is
	has(t, s, map[string]string{"10": hundred, "c": "3", "e": ""})
	is(t, s.Rename("c", "0"), api.OK)
	has(t, s, map[string]string{"0": "3", "10": hundred, "e": ""})
	is(t, s.Rename("0", "0"), api.OK)
	is(t, s.Rename("e", "10"), api.OK)
	has(t, s, map[string]string{"0": "3", "10": ""})
	is(t, s.Delete("0"), api.OK)
	is(t, s.Write("10", ""), api.OK)
	has(t, s, map[string]string{"10": ""})
	is(t, s.Delete("10"), api.OK)
	has(t, s, nil)
	if d.Calls() != 0 || s.Gen() != 0 {
		t.Error(d.Calls(), s.Gen())
	}
}

// P10.4: errors, and their order; nothing changes with one.
func TestErrors(t *testing.T) {
	d := block.New(12)
	s := open(t, d)
	is(t, s.Write("a", "1"), api.OK)
	is(t, s.Write("b", "2"), api.OK)
	great := strings.Repeat("x", 64*12)
	for _, name := range []string{"", "A", "a ", " a", "a/b", "a_b", "é", "a\x00", "\xff", "a:", "a`", "a{", ",", strings.Repeat("a", 17), strings.Repeat("a", 3000)} {
		is(t, s.Write(name, ""), api.ErrName)
		is(t, s.Write(name, great), api.ErrName)
		is(t, s.Append(name, ""), api.ErrName)
		is(t, s.Append(name, great), api.ErrName)
		is(t, s.Delete(name), api.ErrName)
		for _, other := range []string{"a", "c", name} {
			is(t, s.Rename(name, other), api.ErrName)
			is(t, s.Rename(other, name), api.ErrName)
		}
	}
	for _, name := range []string{"c", "aa", "-", strings.Repeat("a", 16)} {
		is(t, s.Delete(name), api.ErrNone)
		is(t, s.Rename(name, "a"), api.ErrNone)
		is(t, s.Rename(name, "d"), api.ErrNone)
		is(t, s.Rename(name, name), api.ErrNone)
	}
	is(t, s.Write("a", great), api.ErrSpace)
	is(t, s.Write("c", great), api.ErrSpace)
	is(t, s.Append("a", great), api.ErrSpace)
	is(t, s.Append("c", great), api.ErrSpace)
	has(t, s, map[string]string{"a": "1", "b": "2"})
	if s.Free() != 7 {
		t.Error(s.Free())
	}
}

// P10.4: each name of one byte, and each length.
func TestEachName(t *testing.T) {
	for c := range 256 {
		s := open(t, block.New(8))
		for _, name := range []string{string([]byte{byte(c)}), string([]byte{'a', byte(c)}), string([]byte{byte(c), 'a'})} {
			want := api.ErrName
			if named(name) {
				want = api.OK
			}
			is(t, s.Write(name, ""), want)
			is(t, s.Append(name, ""), want)
		}
	}
	for n := 1; n < 20; n++ {
		want := api.OK
		if n > 16 {
			want = api.ErrName
		}
		is(t, open(t, block.New(8)).Write(strings.Repeat("a", n), ""), want)
	}
}

// P10.4: the room that what lasts leaves.
func TestRoomBesideWhatLasts(t *testing.T) {
	d := block.New(12)
	s := open(t, d)
	is(t, s.Write("a", strings.Repeat("a", 4*64)), api.OK)
	is(t, s.Sync(), api.OK) // five sectors last, so that five are left
	for chunks := range 8 {
		want := api.OK
		if chunks > 4 {
			want = api.ErrSpace
		}
		is(t, s.Write("a", strings.Repeat("b", chunks*64)), want)
		if want == api.OK && s.Free() != 4-chunks {
			t.Errorf("%d chunks: Free %d", chunks, s.Free())
		}
	}
	is(t, s.Write("a", strings.Repeat("b", 4*64-1)+"c"), api.OK)
	is(t, s.Append("a", "d"), api.ErrSpace)
	is(t, s.Write("b", "d"), api.ErrSpace)
	is(t, s.Write("b", ""), api.OK) // a file without bytes needs no chunk
	is(t, s.Rename("a", "c"), api.OK)
	is(t, s.Sync(), api.OK)
	has(t, open(t, d), map[string]string{"b": "", "c": strings.Repeat("b", 4*64-1) + "c"})
}

// P10.4: what is reused takes no room, by its number, its bytes and its file's name.
func TestReused(t *testing.T) {
	four := strings.Repeat("a", 64) + strings.Repeat("b", 64) + strings.Repeat("c", 64) + strings.Repeat("d", 10)
	for i, x := range []struct {
		files map[string]string
		free  int // 20 - 2 - 5, but for what a Sync needs
	}{
		{map[string]string{"f": four}, 12},
		{map[string]string{"f": four[:192]}, 12},
		{map[string]string{"f": four[:64]}, 12},
		{map[string]string{"f": ""}, 12},
		{nil, 12},
		{map[string]string{"f": four + "e"}, 11},
		{map[string]string{"f": four + strings.Repeat("e", 55)}, 10},
		{map[string]string{"f": four[:65]}, 11},
		{map[string]string{"f": four[:63]}, 11},
		{map[string]string{"f": four[64:]}, 9},
		{map[string]string{"f": four[:64] + four[:64]}, 11},
		{map[string]string{"f": four[:64] + four[128:192] + four[128:]}, 11},
		{map[string]string{"e": four, "f": four}, 8},
		{map[string]string{"g": four}, 8},
		{map[string]string{"e": four[:64]}, 11},
	} {
		d := block.New(20)
		s := open(t, d)
		is(t, s.Write("f", four), api.OK)
		is(t, s.Sync(), api.OK)
		is(t, s.Delete("f"), api.OK)
		for name, data := range x.files {
			is(t, s.Write(name, data), api.OK)
		}
		if s.Free() != x.free {
			t.Errorf("%d: Free %d, not %d", i, s.Free(), x.free)
		}
		calls := d.Calls()
		is(t, s.Sync(), api.OK)
		if written := d.Calls() - calls - 3; i > 0 && written != 13-x.free {
			t.Errorf("%d: %d chunks written, not %d", i, written, 13-x.free)
		}
		u := open(t, d)
		has(t, u, x.files)
	}
}

// P10.4: there is room for the directory of the Sync behind, too.
func TestRoomForTheNextOne(t *testing.T) {
	for size := 8; size < 80; size++ {
		s := open(t, block.New(size))
		most := size - 4 // with a directory of one chunk
		if size > 63 {   // behind 59 chunks it has two: five bytes, and one for each of their sectors
			most = max(59, size-6)
		}
		is(t, s.Write("a", strings.Repeat("x", 64*most+1)), api.ErrSpace)
		is(t, s.Write("a", strings.Repeat("x", 64*most)), api.OK)
	}
}

// P10.4: how many chunks the directory has.
func TestRoomForTheDirectory(t *testing.T) {
	d := block.New(512)
	s := open(t, d)
	for i := range 71 {
		is(t, s.Write(fmt.Sprintf("a%015d", i), ""), api.OK)
	}
	if s.Free() != 490 { // 1279 bytes, 20 chunks
		t.Error(s.Free())
	}
	is(t, s.Write("z", ""), api.ErrSpace)
	is(t, s.Append(fmt.Sprintf("a%015d", 3), "x"), api.OK) // one more byte, of its sector: 1280
	if s.Free() != 489 {
		t.Error(s.Free())
	}
	is(t, s.Append(fmt.Sprintf("a%015d", 4), "x"), api.ErrSpace)
	is(t, s.Append(fmt.Sprintf("a%015d", 3), hundred[:64]), api.ErrSpace)
	is(t, s.Append(fmt.Sprintf("a%015d", 3), hundred[:63]), api.OK)
	is(t, s.Sync(), api.OK)
	u := open(t, d)
	if len(u.Names()) != 71 || u.Free() != 510-21-20 {
		t.Error(len(u.Names()), u.Free())
	}
}

// P10.4: sectors from 128 on take two bytes in the directory.
func TestGreatSectors(t *testing.T) {
	d := block.New(300)
	s := open(t, d)
	p := newPlain(300)
	do := func(name, data string) {
		is(t, s.Write(name, data), p.write(name, data))
	}
	do("a", strings.Repeat("a", 120*64)) // 2 to 121; the directory has 125 bytes, two chunks
	is(t, s.Sync(), api.OK)
	p.synced()
	holds(t, s, d, p)
	for n := range 12 {
		do("b", strings.Repeat("b", 64*n)) // from 124 on; from the fifth one on they take two bytes
		holds(t, s, d, p)
	}
	do("b", strings.Repeat("b", 64*4))
	if s.Free() != 298-122-4-3 { // of b four bytes at 124 to 127: 125 + 3 + 1 + ... are above 128
		t.Error(s.Free())
	}
	is(t, s.Sync(), api.OK)
	p.synced()
	holds(t, s, d, p)
	has(t, open(t, d), p.there)
}

// P10.5: a Sync by hand, when there is nothing to do.
func TestSyncOfNothing(t *testing.T) {
	d := block.New(20)
	s := open(t, d)
	is(t, s.Write("a", "x"), api.OK)
	is(t, s.Delete("a"), api.OK)
	is(t, s.Sync(), api.OK)
	if d.Calls() != 0 || s.Gen() != 0 {
		t.Error(d.Calls(), s.Gen())
	}
	is(t, s.Write("a", ""), api.OK)
	is(t, s.Sync(), api.OK)
	if d.Calls() != 4 || s.Gen() != 1 { // the directory, Flush, the root, Flush
		t.Error(d.Calls(), s.Gen())
	}
	is(t, s.Rename("a", "b"), api.OK)
	is(t, s.Append("b", "x"), api.OK)
	is(t, s.Write("b", ""), api.OK)
	is(t, s.Rename("b", "a"), api.OK)
	is(t, s.Sync(), api.OK)
	u := open(t, d)
	is(t, u.Sync(), api.OK)
	if d.Calls() != 4 || s.Gen() != 1 || u.Gen() != 1 {
		t.Error(d.Calls(), s.Gen(), u.Gen())
	}
	is(t, s.Rename("a", "b"), api.OK) // another name is another file
	is(t, s.Sync(), api.OK)
	if d.Calls() != 8 || s.Gen() != 2 {
		t.Error(d.Calls(), s.Gen())
	}
	is(t, s.Delete("b"), api.OK) // no files are not what lasts now
	is(t, s.Sync(), api.OK)
	if d.Calls() != 12 || s.Gen() != 3 {
		t.Error(d.Calls(), s.Gen())
	}
}

// ready is a store with one Sync behind it, and changes of which all kinds of chunks come.
func ready(t *testing.T) (*files.Store, *block.Disk, *plain) {
	t.Helper()
	d, p := block.New(30), newPlain(30)
	s := open(t, d)
	do := func(name, data string) {
		is(t, s.Write(name, data), p.write(name, data))
	}
	do("b", hundred)
	do("d", "old")
	for i := range 4 {
		do(fmt.Sprintf("filler%08d", i), "")
	}
	is(t, s.Sync(), api.OK)
	p.synced()
	do("d", "new")
	do("b", hundred[:64]+strings.Repeat("z", 100))
	do("a", hundred)
	do("c", "c")
	is(t, s.Delete("filler00000002"), p.delete("filler00000002"))
	holds(t, s, d, p)
	return s, d, p
}

// everything lets all last that was written once.
const everything = 0x5555555555555555

// P10.5: what is written, in which order, and what is flushed when.
func TestSyncOrder(t *testing.T) {
	_, _, p := ready(t)
	x := p.sync(p.there)
	var steps []*write // nil is a Flush
	for i := range x.writes {
		steps = append(steps, &x.writes[i])
	}
	steps = append(steps, nil, &x.root, nil)
	for n := 1; n <= len(steps)+1; n++ {
		for _, keep := range []uint64{0, everything} {
			s, d, p := ready(t)
			before := d.Calls()
			d.Cut(n, keep)
			want, flushed := api.ErrDead, 0
			for i, w := range steps[:min(n, len(steps))] {
				if w == nil && i+1 < n {
					flushed = i
				}
			}
			if n > len(steps) {
				want, flushed = api.OK, len(steps)
			}
			is(t, s.Sync(), want)
			if calls := d.Calls() - before; calls != min(n, len(steps)) {
				t.Errorf("%d calls, cut at %d", calls, n)
			}
			for i, w := range steps[:min(n, len(steps))] {
				if w != nil && (keep != 0 || i < flushed) {
					p.disk[w.i] = w.s
				}
			}
			d.Power()
			lies(t, d, p.disk)
		}
	}
}

// P10.5: behind a Sync that answered ErrDead all others do, and Gen is as it was; all else goes on.
func TestSyncDead(t *testing.T) {
	for n := 0; n <= 10; n++ {
		s, d, p := ready(t)
		if n == 0 {
			d.Crash(0)
		}
		d.Cut(n, everything)
		for range 3 {
			is(t, s.Sync(), api.ErrDead)
		}
		has(t, s, p.there)
		if s.Gen() != 1 || s.Free() != p.free() {
			t.Error(s.Gen(), s.Free())
		}
		is(t, s.Write("e", "e"), p.write("e", "e"))
		d.Power()
		calls := d.Calls()
		is(t, s.Sync(), api.ErrDead)
		is(t, s.Delete("e"), p.delete("e"))
		is(t, s.Append("b", "e"), p.write("b", p.there["b"]+"e"))
		is(t, s.Sync(), api.ErrDead)
		has(t, s, p.there)
		if s.Gen() != 1 || s.Free() != p.free() || d.Calls() != calls {
			t.Error(s.Gen(), s.Free(), d.Calls())
		}
	}
}

// P10.5: so it is though the power comes back at once.
func TestSyncDeadOnce(t *testing.T) {
	for n := 0; n <= 10; n++ {
		s, d, p := ready(t)
		if n == 0 {
			d.Crash(0)
		}
		d.Cut(n, everything)
		is(t, s.Sync(), api.ErrDead)
		d.Power()
		calls := d.Calls()
		is(t, s.Sync(), api.ErrDead)
		has(t, s, p.there)
		if s.Gen() != 1 || d.Calls() != calls {
			t.Error(s.Gen(), d.Calls())
		}
	}
}

// P10.5: without power a Sync answers ErrDead though there is nothing to do, and then always.
func TestSyncOfNothingDead(t *testing.T) {
	d := block.New(20)
	s, other := open(t, d), open(t, d)
	d.Crash(0)
	is(t, s.Sync(), api.ErrDead)
	d.Power()
	is(t, s.Sync(), api.ErrDead)
	is(t, s.Write("a", "x"), api.OK)
	is(t, s.Sync(), api.ErrDead)
	is(t, other.Write("a", "x"), api.OK) // no Sync of this one answered so
	is(t, other.Sync(), api.OK)
	has(t, open(t, d), map[string]string{"a": "x"})
}

// P10.3, P10.4: without power files are read and changed; if no Sync came meanwhile, the next one is as ever.
func TestWithoutPower(t *testing.T) {
	s, d, p := ready(t)
	d.Crash(0)
	has(t, s, p.there)
	is(t, s.Write("e", "e"), p.write("e", "e"))
	is(t, s.Write("e", strings.Repeat("e", 64*30)), api.ErrSpace)
	is(t, s.Delete("none"), api.ErrNone)
	is(t, s.Rename("e", "f"), p.rename("e", "f"))
	if s.Gen() != 1 || s.Free() != p.free() {
		t.Error(s.Gen(), s.Free())
	}
	d.Power()
	is(t, s.Sync(), api.OK)
	p.synced()
	holds(t, s, d, p)
	has(t, open(t, d), p.there)
}

// names are few, so that changes meet.
var names = []string{"a", "aa", "b", "c.1", "c-2", "9", "abcdefghijklmnop", "z"}

// step does the same to both, whatever chance tells, and holds the answers against each other.
func step(t *testing.T, m *made, s *files.Store, p *plain) {
	t.Helper()
	name, other := names[m.below(len(names))], names[m.below(len(names))]
	if m.below(50) == 0 {
		name = "A"
	}
	n := 100
	if m.below(4) == 0 {
		n = 64 * len(p.disk) / 2
	}
	data := m.text(n)
	switch m.below(10) {
	case 0, 1:
		is(t, s.Delete(name), p.delete(name))
	case 2:
		is(t, s.Rename(name, other), p.rename(name, other))
	case 3, 4, 5:
		is(t, s.Append(name, data), p.write(name, p.there[name]+data))
	case 6:
		elder := p.there[name]
		at := m.below(len(elder) + 1)
		data = elder[:at] + "?" + elder[min(at+1, len(elder)):]
		is(t, s.Write(name, data), p.write(name, data))
	default:
		is(t, s.Write(name, data), p.write(name, data))
	}
}

// P10.1 to P10.6: whatever calls, on small disks and on great ones; a Sync never has too little room.
func TestWhatever(t *testing.T) {
	m := made(1)
	for _, size := range []int{8, 9, 12, 20, 40, 130, 150, 300, 512} {
		d, p := block.New(size), newPlain(size)
		s := open(t, d)
		for range 150 {
			for range m.below(6) {
				step(t, &m, s, p)
			}
			calls := d.Calls()
			is(t, s.Sync(), api.OK)
			if got, want := d.Calls()-calls, p.synced(); got != want {
				t.Errorf("Sync: %d calls, not %d", got, want)
			}
			holds(t, s, d, p)
			if m.below(3) == 0 {
				s = open(t, d)
				holds(t, s, d, p)
			}
			if t.Failed() {
				t.FailNow()
			}
		}
	}
}

// P10.6: wherever the power goes, what is opened has the files of the last Sync that answered OK, or of the one that was under way.
func TestWhereverThePowerGoes(t *testing.T) {
	m := made(2)
	for _, size := range []int{8, 12, 25, 60} {
		d, p := block.New(size), newPlain(size)
		s := open(t, d)
		for range 400 {
			for range 1 + m.below(4) {
				step(t, &m, s, p)
			}
			if m.below(3) > 0 {
				d.Cut(1+m.below(m.below(size)+4), m.word())
			}
			e := s.Sync()
			if e == api.OK {
				p.synced()
			}
			if e == api.OK && m.below(4) > 0 {
				d.Power() // no order any more
				continue
			}
			d.Crash(m.word())
			d.Power()
			s = open(t, d)
			p = opened(t, s, p, d)
		}
	}
}

// opened is the plain store of what was opened, which must be one of two.
func opened(t *testing.T, s *files.Store, p *plain, d *block.Disk) *plain {
	t.Helper()
	there := map[string]string{}
	for _, name := range s.Names() {
		there[name], _ = s.Read(name)
	}
	if !maps.Equal(there, p.lasts) && !maps.Equal(there, p.there) {
		t.Fatalf("opened: %q, which is neither %q nor %q", there, p.lasts, p.there)
	}
	q := newPlain(d.Size())
	q.there, q.lasts = there, there
	q.where, q.directory = found(t, d, s.Gen())
	return q
}

// found reads the sectors that the root of a generation names, as there were no faults.
func found(t *testing.T, d *block.Disk, gen int) (map[string][]int, []int) {
	t.Helper()
	where := map[string][]int{}
	if gen == 0 {
		return where, nil
	}
	root, _ := d.Read(gen % 2)
	b := []byte(root)
	next := func() int {
		n, size := binary.Uvarint(b)
		b = b[size:]
		return int(n)
	}
	next()
	var directory []int
	var list []byte
	for range (next() + 63) / 64 {
		directory = append(directory, next())
	}
	for _, i := range directory {
		s, _ := d.Read(i)
		list = append(list, s...)
	}
	b = list
	for range next() {
		n := next()
		name := string(b[:n])
		b = b[n:]
		for range (next() + 63) / 64 {
			where[name] = append(where[name], next())
		}
	}
	return where, directory
}

// P10.6: of one Sync each call at which the power goes, with all that eight sectors may keep.
func TestEachCall(t *testing.T) {
	for n := 1; n <= 11; n++ {
		for keep := range uint64(1 << 16) {
			if keep%257 > 3 && keep%5 > 0 {
				continue
			}
			d := block.New(16)
			s := open(t, d)
			is(t, s.Write("a", "old"), api.OK)
			is(t, s.Sync(), api.OK)
			is(t, s.Write("a", hundred+hundred), api.OK)
			is(t, s.Write("b", "new"), api.OK)
			d.Cut(n, keep)
			e := s.Sync()
			d.Crash(keep)
			d.Power()
			u := open(t, d)
			got, _ := u.Read("a")
			old := u.Gen() == 1 && got == "old" && len(u.Names()) == 1
			new := u.Gen() == 2 && got == hundred+hundred && len(u.Names()) == 2
			if !old && !new || e == api.OK && old {
				t.Fatal(n, keep, e, u.Gen(), got)
			}
		}
	}
}

// P10.4: of a state that a disk had, and that leaves the next Sync no room, Free is below 0, and no change fits that does not mend it.
func TestCrowded(t *testing.T) {
	d := block.New(8)
	list := "\x01\x01a" + numbers(5*64) + "\x02\x03\x04\x05\x06"
	texts := map[int]string{1: numbers(1, len(list), 7), 7: list}
	for i := 2; i < 7; i++ {
		texts[i] = strings.Repeat("x", 64)
	}
	lay(t, d, texts)
	s := open(t, d)
	if s.Free() != -1 {
		t.Error(s.Free())
	}
	is(t, s.Sync(), api.OK)
	is(t, s.Rename("a", "a"), api.OK)
	is(t, s.Rename("a", "b"), api.ErrSpace)
	is(t, s.Append("a", "x"), api.ErrSpace)
	is(t, s.Delete("a"), api.ErrSpace) // there is no sector for its directory
	has(t, s, map[string]string{"a": strings.Repeat("x", 5*64)})
}

// R3: two stores of one disk have nothing in common but the disk.
func TestTwoStores(t *testing.T) {
	d := block.New(20)
	a, b := open(t, d), open(t, d)
	is(t, a.Write("a", "x"), api.OK)
	has(t, b, nil)
	is(t, a.Sync(), api.OK)
	has(t, b, nil)
	if b.Gen() != 0 || b.Free() != 17 {
		t.Error(b.Gen(), b.Free())
	}
	c := open(t, d)
	is(t, c.Append("a", "y"), api.OK)
	has(t, a, map[string]string{"a": "x"})
	other := open(t, block.New(20))
	has(t, other, nil)
}

// shares tells whether two texts that are not empty begin at one place in memory.
func shares(a, b string) bool {
	return unsafe.StringData(a) == unsafe.StringData(b)
}

// R3: what is handed in is not kept.
func TestNotKept(t *testing.T) {
	for way := range 5 {
		name, data, to := []byte("name"), []byte("data"), []byte("other")
		s := open(t, block.New(20))
		n, x, o := unsafe.String(&name[0], 4), unsafe.String(&data[0], 4), unsafe.String(&to[0], 5)
		want := map[string]string{"name": "data"}
		switch way {
		case 0:
			is(t, s.Write(n, x), api.OK)
		case 1:
			is(t, s.Append(n, x), api.OK)
		case 2:
			is(t, s.Write("name", ""), api.OK)
			is(t, s.Append(n, x), api.OK)
		case 3:
			is(t, s.Write(n, x), api.OK)
			is(t, s.Append(n, ""), api.OK)
		case 4:
			is(t, s.Write(n, x), api.OK)
			is(t, s.Rename(n, o), api.OK)
			want = map[string]string{"other": "data"}
		}
		copy(name, "nome")
		copy(data, "xxxx")
		copy(to, "otter")
		has(t, s, want)
	}
}

// R3: an answer is new memory.
func TestNewMemory(t *testing.T) {
	d := block.New(20)
	s := open(t, d)
	is(t, s.Write("name", "data"), api.OK)
	is(t, s.Write("other", "data"), api.OK)
	for range 2 {
		one, two := s.Names(), s.Names()
		if shares(one[0], two[0]) || shares(one[1], two[1]) {
			t.Error("two lists of names share memory")
		}
		_ = append(one[:1], "x")
		x, _ := s.Read("name")
		y, _ := s.Read("name")
		if shares(x, y) {
			t.Error("two answers share memory")
		}
		clear(unsafe.Slice(unsafe.StringData(x), len(x)))
		clear(unsafe.Slice(unsafe.StringData(one[0]), len(one[0])))
		has(t, s, map[string]string{"name": "data", "other": "data"})
		is(t, s.Sync(), api.OK)
		s = open(t, d)
	}
}

// R5: the same calls on a new disk answer the same, however often.
func TestAgain(t *testing.T) {
	for range 10 {
		m := made(3)
		d, p := block.New(40), newPlain(40)
		s := open(t, d)
		for range 60 {
			step(t, &m, s, p)
			if m.below(4) == 0 {
				is(t, s.Sync(), api.OK)
				p.synced()
			}
		}
		p.disk = p.disk[:0] // what was synced is on it, and nothing else
		holds(t, s, d, &plain{gen: p.gen, there: p.there, lasts: p.lasts, where: p.where, directory: p.directory, disk: diskOf(d)})
	}
}

func diskOf(d *block.Disk) []string {
	l := make([]string, d.Size())
	for i := range l {
		l[i], _ = d.Read(i)
	}
	return l
}
