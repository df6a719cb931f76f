package warren

type directory struct {
	common
	entries map[string]node
	bound   row // the row that Bind made; none: nothing is bound onto it
}

func newDirectory(name string, in *directory) *directory {
	return &directory{common: common{name: name, in: in}, entries: map[string]node{}}
}

// row gives what is seen where the directory stands now.
func (d *directory) row() row {
	if d.bound == nil {
		return row{{dir: d, leave: true}}
	}
	return d.bound
}

// carries tells whether the other one is laid onto this directory, or onto one that lies in it, however deep.
func (d *directory) carries(other *directory) bool {
	if d.bound.has(other) {
		return true
	}
	for _, n := range d.entries {
		if inner, ok := n.(*directory); ok && inner.carries(other) {
			return true
		}
	}
	return false
}
