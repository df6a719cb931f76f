package warren

// node is a file or a directory.
type node interface {
	called() string
	liesIn() *directory
	isGone() bool
}

// common is what files and directories have in common.
type common struct {
	name string
	in   *directory // of the root: none
	gone bool
}

func (c *common) called() string     { return c.name }
func (c *common) liesIn() *directory { return c.in }
func (c *common) isGone() bool       { return c.gone }

type file struct {
	common
}

type directory struct {
	common
	entries map[string]node
	row     row
}

func newFile(name string, in *directory) *file {
	return &file{common: common{name: name, in: in}}
}

func newDirectory(name string, in *directory) *directory {
	d := &directory{common: common{name: name, in: in}, entries: map[string]node{}}
	d.row = row{{dir: d, leave: true}}
	return d
}
