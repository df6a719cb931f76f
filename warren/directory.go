package warren

import (
	"maps"
	"slices"
	"sync"

	"warren/api"
)

type directory struct {
	common
	entries map[string]node
	bound   row // the row that Bind made; none: nothing is bound onto it
}

func newDirectory(name string, in *directory) *directory {
	return &directory{common: common{name: name, in: in}, entries: map[string]node{}}
}

// row gives what is seen where the directory stands now.
func (d *directory) row() row {
	if d.bound == nil {
		return row{{dir: d, leave: true}}
	}
	return d.bound
}

// bind lays a directory over or under what is seen here, or in its stead, for those who come from now on.
func (d *directory) bind(from *directory, how int) api.Errno {
	one := row{{dir: from, leave: how&api.Leave != 0}}
	var laid row
	switch how &^ api.Leave {
	case api.Replace:
		laid = one
	case api.Before:
		laid = slices.Concat(one, d.row())
	case api.After:
		laid = slices.Concat(d.row(), one)
	default:
		return api.ErrArg
	}
	if len(laid) > api.MaxRow {
		return api.ErrMany
	}
	d.bound = laid
	return api.OK
}

// unbind lets the directory be seen alone again.
func (d *directory) unbind() api.Errno {
	if d.bound == nil {
		return api.ErrNone
	}
	d.bound = nil
	return api.OK
}

// used tells how many bytes lie in the directory, however deep, by entries alone. Each entry is counted by a goroutine of its own, and in a number of its own: none waits for another.
func (d *directory) used() int {
	nodes := slices.Collect(maps.Values(d.entries))
	counts := make([]int, len(nodes))
	var counting sync.WaitGroup
	for i, n := range nodes {
		counting.Go(func() { counts[i] = n.used() })
	}
	counting.Wait()
	sum := 0
	for _, count := range counts {
		sum += count
	}
	return sum
}

// carries tells whether the other one is laid onto this directory, or onto one that lies in it, however deep.
func (d *directory) carries(other *directory) bool {
	if d.bound.has(other) {
		return true
	}
	for _, n := range d.entries {
		if inner, ok := n.(*directory); ok && inner.carries(other) {
			return true
		}
	}
	return false
}
