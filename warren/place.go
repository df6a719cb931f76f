package warren

import (
	"strings"

	"warren/api"
)

// place is where a fid may stand. Fids and places further on share it, so it is never changed once it is made.
type place struct {
	node node
	row  row    // of a directory, as it was when it was come to
	from *place // of the root: itself
}

// come makes the place of a node that is come to now; without a place to come from it is the root's.
func come(n node, from *place) *place {
	p := &place{node: n, from: from}
	if d, ok := n.(*directory); ok {
		p.row = d.row()
	}
	if from == nil {
		p.from = p
	}
	return p
}

// checkDirectory tells what keeps a place from being used as a directory.
func (p *place) checkDirectory() api.Errno {
	if p.node.isGone() {
		return api.ErrGone
	}
	if _, ok := p.node.(*directory); !ok {
		return api.ErrDir
	}
	return api.OK
}

// file gives the place's node as a file, or tells what keeps it from being used as one.
func (p *place) file() (*file, api.Errno) {
	if p.node.isGone() {
		return nil, api.ErrGone
	}
	f, ok := p.node.(*file)
	if !ok {
		return nil, api.ErrDir
	}
	return f, api.OK
}

// stat tells what the place's node is, and how much is seen there.
func (p *place) stat() api.Stat {
	out := api.Stat{Name: strings.Clone(p.node.called())}
	switch n := p.node.(type) {
	case *file:
		out.Size, out.Version = len(n.bytes), n.version
	case *directory:
		out.Dir, out.Row = true, p.row.count()
	}
	return out
}

// used tells how many bytes lie at the place: of a directory, in what is seen there.
func (p *place) used() int {
	if _, ok := p.node.(*directory); ok {
		return p.row.used()
	}
	return p.node.used()
}

// step goes on by one name.
func (p *place) step(name string) (*place, api.Errno) {
	switch name {
	case here:
		return p, api.OK
	case back:
		return p.from, api.OK
	}
	if e := p.checkDirectory(); e != api.OK {
		return nil, e
	}
	n := p.row.find(name)
	if n == nil {
		return nil, api.ErrNone
	}
	return come(n, p), api.OK
}

// walk goes on name by name, and tells how many names were gone.
func (p *place) walk(names []string) (*place, int, api.Errno) {
	for i, name := range names {
		next, e := p.step(name)
		if e != api.OK {
			return nil, i, e
		}
		p = next
	}
	return p, len(names), api.OK
}
