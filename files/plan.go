package files

import (
	"iter"

	"strandline/api"
	"strandline/block"
)

// plan is how files would stand behind a Sync.
type plan struct {
	stand
	text    string // of the directory
	size    int
	taken   [api.Sectors]bool // by what lasts, or by what is written
	lasting int               // sectors that last
	all     int               // chunks of the files
	fresh   []chunk           // of the files, those that are not reused
}

// chunk is what is written into a sector.
type chunk struct {
	text   string
	sector *int
}

// plan finds the sectors of the files' chunks, as far as there are so many. The directory's bytes hang on them: greater numbers take more.
func (s *Store) plan(files []file) *plan {
	p := &plan{size: s.disk.Size(), stand: stand{gen: s.lasts.gen + 1, files: files}}
	p.keep(s.lasts.directory)
	for _, sectors := range s.lasts.sectors {
		p.keep(sectors)
	}
	for _, f := range files {
		p.add(f, s.lasts)
	}
	p.place(p.fresh)
	p.text = p.list()
	return p
}

// keep takes sectors that last.
func (p *plan) keep(sectors []int) {
	for _, i := range sectors {
		p.taken[i] = true
	}
	p.lasting += len(sectors)
}

// add adds a file, with the sectors of those of its chunks that last.
func (p *plan) add(f file, lasts stand) {
	sectors := make([]int, chunks(len(f.data)))
	p.sectors = append(p.sectors, sectors)
	p.all += len(sectors)
	at, found := search(lasts.files, f.name)
	for i := range sectors {
		text := piece(f.data, i)
		if found && i < len(lasts.sectors[at]) && text == piece(lasts.files[at].data, i) {
			sectors[i] = lasts.sectors[at][i]
			continue
		}
		p.fresh = append(p.fresh, chunk{text, &sectors[i]})
	}
}

// piece is the i-th chunk of a text.
func piece(s string, i int) string {
	from := i * api.Sector
	return s[from:min(from+api.Sector, len(s))]
}

// place gives each of the chunks the lowest free sector.
func (p *plan) place(l []chunk) {
	for i := range p.free() {
		if len(l) == 0 {
			return
		}
		*l[0].sector = i
		p.taken[i] = true
		l = l[1:]
	}
}

// free tells the sectors that nobody has taken, from the lowest one on.
func (p *plan) free() iter.Seq[int] {
	return func(yield func(int) bool) {
		for i := roots; i < p.size; i++ {
			if !p.taken[i] && !yield(i) {
				return
			}
		}
	}
}

// fits tells whether a Sync has room, and the one behind it, too.
func (p *plan) fits() bool {
	k := chunks(len(p.text))
	return k <= mostDirectory && p.left() >= 0 && p.all+2*k <= p.size-roots
}

// left is how many sectors a Sync would leave.
func (p *plan) left() int {
	return p.size - roots - p.lasting - len(p.fresh) - chunks(len(p.text))
}

// write writes a plan that fits. Nothing of what lasts is written over, and the root comes alone, so that till then the elder one is right.
func (p *plan) write(d *block.Disk) api.Errno {
	for _, c := range append(p.fresh, p.placeText()...) {
		if e := d.Write(*c.sector, c.text); e != api.OK {
			return e
		}
	}
	if e := d.Flush(); e != api.OK {
		return e
	}
	if e := d.Write(p.gen%roots, p.root(len(p.text))); e != api.OK {
		return e
	}
	return d.Flush()
}

// placeText places the directory.
func (p *plan) placeText() []chunk {
	p.directory = make([]int, chunks(len(p.text)))
	var l []chunk
	for i := range p.directory {
		l = append(l, chunk{piece(p.text, i), &p.directory[i]})
	}
	p.place(l)
	return l
}
