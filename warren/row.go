package warren

import (
	"maps"
	"slices"
	"strings"
)

// row is what is seen where a directory stands. Places share it, so its members are never written over: another row takes its stead.
type row []member

// member is a directory in a row.
type member struct {
	dir   *directory
	leave bool // entries may be made in it
}

// find gives the first member's node of that name, or nil.
func (r row) find(name string) node {
	for _, m := range r {
		if m.dir.isGone() {
			continue
		}
		if n, ok := m.dir.entries[name]; ok {
			return n
		}
	}
	return nil
}

// maker gives the first member in which entries may be made, or nil.
func (r row) maker() *directory {
	for _, m := range r {
		if m.leave && !m.dir.isGone() {
			return m.dir
		}
	}
	return nil
}

// has tells whether a directory is a member.
func (r row) has(dir *directory) bool {
	return slices.ContainsFunc(r, func(m member) bool { return m.dir == dir })
}

// count tells how many members are not gone.
func (r row) count() int {
	n := 0
	for _, m := range r {
		if !m.dir.isGone() {
			n++
		}
	}
	return n
}

// used tells how many bytes lie in the members, each of them counted each time. One that is gone has no entries.
func (r row) used() int {
	sum := 0
	for _, m := range r {
		sum += m.dir.used()
	}
	return sum
}

// list tells the names of the entries, member by member, each where it comes first.
func (r row) list() []string {
	var out []string
	for i, m := range r {
		if m.dir.isGone() {
			continue
		}
		for _, name := range slices.Sorted(maps.Keys(m.dir.entries)) {
			if r[:i].find(name) == nil {
				out = append(out, strings.Clone(name))
			}
		}
	}
	return out
}
