package files

import (
	"strings"

	"strandline/api"
	"strandline/block"
	"strandline/zig"
)

const (
	roots         = 2 // the sectors from 0 on; chunks stand in those behind
	mostDirectory = 20
	mostGen       = 1 << 60
)

// stand is how files stand on a disk.
type stand struct {
	gen       int
	files     []file
	sectors   [][]int // of the chunks of each file
	directory []int   // the sectors of its chunks
}

// chunks tells how many chunks a text of n bytes has.
func chunks(n int) int {
	return (n + api.Sector - 1) / api.Sector
}

// root is the text by which a directory of n bytes is found again.
func (s stand) root(n int) string {
	return zig.Uint(uint64(s.gen)) + places(n, s.directory)
}

// places is the text of where n bytes stand.
func places(n int, sectors []int) string {
	var b strings.Builder
	b.WriteString(zig.Uint(uint64(n)))
	for _, i := range sectors {
		b.WriteString(zig.Uint(uint64(i)))
	}
	return b.String()
}

// list is the text of the directory.
func (s stand) list() string {
	var b strings.Builder
	b.WriteString(zig.Uint(uint64(len(s.files))))
	for i, f := range s.files {
		b.WriteString(zig.Text(f.name))
		b.WriteString(places(len(f.data), s.sectors[i]))
	}
	return b.String()
}

// newest is what the right root of the greater generation names.
func newest(d *block.Disk) stand {
	var best stand
	for g := range roots {
		s, right := readRoot(d, g)
		if right && s.gen > best.gen {
			best = s
		}
	}
	return best
}

// readRoot tells false, if the root in the sector g is not right.
func readRoot(d *block.Disk, g int) (stand, bool) {
	s, _ := d.Read(g)
	look := &look{disk: d}
	r := &reader{s: s}
	gen := r.number()
	list, directory := r.text(look.chunk)
	if !r.ended() || gen < 1 || gen > mostGen || gen%roots != uint64(g) {
		return stand{}, false
	}
	if len(directory) > mostDirectory {
		return stand{}, false
	}
	st := stand{gen: int(gen), directory: directory}
	return st, st.readList(list, look.chunk)
}

// readList reads the directory, and the files that it names. It ends however many there should be, as each name takes bytes.
func (s *stand) readList(list string, chunk chunkReader) bool {
	r := &reader{s: list}
	elder := "" // below all names that may be
	for n := r.number(); n > 0; n-- {
		name := r.name()
		if name <= elder || !mayName(name) {
			return false
		}
		data, sectors := r.text(chunk)
		s.files = append(s.files, file{name, data})
		s.sectors = append(s.sectors, sectors)
		elder = name
	}
	return r.ended()
}

// look reads the chunks that one root names.
type look struct {
	disk  *block.Disk
	named [api.Sectors]bool
}

// chunkReader reads the chunk of n bytes in a sector; false, if there is none.
type chunkReader func(sector uint64, n int) (string, bool)

func (l *look) chunk(sector uint64, n int) (string, bool) {
	if sector < roots || sector >= uint64(l.disk.Size()) || l.named[sector] {
		return "", false
	}
	l.named[sector] = true
	s, e := l.disk.Read(int(sector))
	return s, e == api.OK && len(s) == n
}

// reader reads a text part by part. What is wrong once stays so, and is asked for at the end.
type reader struct {
	s     string
	at    int
	wrong bool
}

func (r *reader) number() uint64 {
	n, end, e := zig.GetUint(r.s, r.at)
	if e != api.OK {
		r.wrong = true
		return 0
	}
	r.at = end
	return n
}

func (r *reader) name() string {
	name, end, e := zig.GetText(r.s, r.at)
	if e != api.OK {
		r.wrong = true
		return ""
	}
	r.at = end
	return name
}

// text reads where a text stands, and the text there.
func (r *reader) text(chunk chunkReader) (string, []int) {
	n := r.number()
	if n > api.Sectors*api.Sector { // more than a disk has, and perhaps than int
		r.wrong = true
		return "", nil
	}
	var b strings.Builder
	var sectors []int
	for b.Len() < int(n) {
		sector := r.number()
		s, found := chunk(sector, min(int(n)-b.Len(), api.Sector))
		if !found {
			r.wrong = true
			return "", nil
		}
		b.WriteString(s)
		sectors = append(sectors, int(sector))
	}
	return b.String(), sectors
}

// ended tells whether there was nothing wrong, and nothing more.
func (r *reader) ended() bool {
	return !r.wrong && r.at == len(r.s)
}
