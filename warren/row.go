package warren

// row is what is seen where a directory stands. Places share it, so its members are never written over: another row takes its stead.
type row []member

// member is a directory in a row.
type member struct {
	dir   *directory
	leave bool // entries may be made in it
}

// find gives the first member's node of that name, or nil.
func (r row) find(name string) node {
	for _, m := range r {
		if m.dir.isGone() {
			continue
		}
		if n, ok := m.dir.entries[name]; ok {
			return n
		}
	}
	return nil
}

// maker gives the first member in which entries may be made, or nil.
func (r row) maker() *directory {
	for _, m := range r {
		if m.leave && !m.dir.isGone() {
			return m.dir
		}
	}
	return nil
}
