package warren

// node is a file or a directory.
type node interface {
	called() string
	liesIn() *directory
	isGone() bool
	goAway()
	used() int
}

// common is what files and directories have in common.
type common struct {
	name string
	in   *directory // of the root: none
	gone bool
}

func (c *common) called() string     { return c.name }
func (c *common) liesIn() *directory { return c.in }
func (c *common) isGone() bool       { return c.gone }
func (c *common) goAway()            { c.gone = true }
