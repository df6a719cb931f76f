package warren

import (
	"strings"

	"warren/api"
)

// rootName is no NAME: no entry can have it.
const rootName = "/"

// tree is all nodes, from the root on.
type tree struct {
	root  *directory
	nodes int // how many are not gone
}

func newTree() *tree {
	return &tree{root: newDirectory(rootName, nil), nodes: 1}
}

// create makes an entry at a place, and gives the new node's place.
func (t *tree) create(p *place, name string, dir bool) (*place, api.Errno) {
	if e := p.checkDirectory(); e != api.OK {
		return nil, e
	}
	if !isName(name) {
		return nil, api.ErrName
	}
	if p.row.find(name) != nil {
		return nil, api.ErrExists
	}
	in := p.row.maker()
	if in == nil {
		return nil, api.ErrDenied
	}
	if t.nodes >= api.MaxNodes {
		return nil, api.ErrMany
	}
	n := newNode(name, in, dir)
	t.add(n)
	return come(n, p), api.OK
}

// newNode copies the name: the text that was handed in may be a piece of a far longer one.
func newNode(name string, in *directory, dir bool) node {
	name = strings.Clone(name)
	if dir {
		return newDirectory(name, in)
	}
	return newFile(name, in)
}

// add makes a new node an entry of the directory in which it lies.
func (t *tree) add(n node) {
	n.liesIn().entries[n.called()] = n
	t.nodes++
}

// remove takes a node away, if nothing keeps it.
func (t *tree) remove(n node) api.Errno {
	if n.isGone() {
		return api.ErrGone
	}
	if n.liesIn() == nil {
		return api.ErrDenied
	}
	if d, ok := n.(*directory); ok && t.isBusy(d) {
		return api.ErrBusy
	}
	t.drop(n)
	return api.OK
}

// isBusy tells whether a directory is in use. What is gone has nothing bound onto it, so the rows of the tree are all there are.
func (t *tree) isBusy(d *directory) bool {
	return len(d.entries) > 0 || d.bound != nil || t.root.carries(d)
}

// drop lets a node be gone, and no entry any more.
func (t *tree) drop(n node) {
	delete(n.liesIn().entries, n.called())
	n.goAway()
	t.nodes--
}
