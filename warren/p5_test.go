package warren

import (
	"strconv"
	"testing"

	"warren/api"
)

func TestP5Open(t *testing.T) {
	s := grown(t, "a/", "f")
	wantWalk(t, s, 1, 2, "f", 1, api.OK)
	wantWalk(t, s, 1, 3, "f", 1, api.OK)
	wantWalk(t, s, 1, 4, "a", 1, api.OK)
	want(t, "Open of a file", s.Open(2), api.OK)
	want(t, "Open again", s.Open(2), api.ErrOpen)
	wantPath(t, s, 2, "/f open")
	wantPath(t, s, 3, "/f")
	want(t, "Open of a directory", s.Open(4), api.OK)
	want(t, "Open of the root", s.Open(1), api.OK)
	want(t, "Open of one that stands nowhere", s.Open(5), api.ErrFid)
}

func TestP5OpenOfOneThatIsGone(t *testing.T) {
	s := grown(t, "a/", "f")
	wantWalk(t, s, 1, 2, "f", 1, api.OK)
	wantWalk(t, s, 1, 3, "f", 1, api.OK)
	wantWalk(t, s, 1, 4, "a", 1, api.OK)
	want(t, "Open(2)", s.Open(2), api.OK)
	lose(t, s, "f")
	lose(t, s, "a")
	want(t, "Open of one that is open and gone", s.Open(2), api.ErrOpen)
	want(t, "Open of a gone file", s.Open(3), api.ErrGone)
	want(t, "Open of a gone directory", s.Open(4), api.ErrGone)
	wantPath(t, s, 3, "/f")
}

func TestP5Create(t *testing.T) {
	s := grown(t, "a/")
	wantWalk(t, s, 1, 2, "a", 1, api.OK)
	wantWalk(t, s, 2, 3, "", 0, api.OK)
	want(t, "Create of a file", s.Create(2, "f", false), api.OK)
	wantPath(t, s, 2, "/a/f open")
	want(t, "Create by a fid that is open", s.Create(2, "g", false), api.ErrOpen)
	want(t, "Create of a directory", s.Create(3, "d", true), api.OK)
	wantPath(t, s, 3, "/a/d open")
	wantWalk(t, s, 1, 4, "a f", 2, api.OK)
	want(t, "Create in a file", s.Create(4, "g", false), api.ErrDir)
	wantWalk(t, s, 1, 5, "a d", 2, api.OK)
	want(t, "Create in the new directory", s.Create(5, "f", false), api.OK)
	wantPath(t, s, 5, "/a/d/f open")
	wantWalk(t, s, 1, 6, "a d f .. .. f", 6, api.OK)
	wantWalk(t, s, 1, 7, "f", 0, api.ErrNone)
	if _, ok := s.fids[2].at.node.(*file); !ok {
		t.Errorf("Create without dir made no file")
	}
}

func TestP5CreateNames(t *testing.T) {
	s := grown(t)
	for _, name := range append([]string{".", ".."}, wrongNames...) {
		for _, dir := range []bool{false, true} {
			want(t, "Create of "+strconv.Quote(name[:min(20, len(name))]), s.Create(1, name, dir), api.ErrName)
		}
	}
	wantPath(t, s, 1, "/")
	for i, name := range rightNames {
		wantWalk(t, s, 1, 2, "", 0, api.OK)
		want(t, "Create of "+name, s.Create(2, name, i%2 == 0), api.OK)
		want(t, "Create again of "+name, s.Create(1, name, i%2 == 1), api.ErrExists)
		wantWalk(t, s, 1, 3, name, 1, api.OK)
		want(t, "Clunk(2)", s.Clunk(2), api.OK)
		want(t, "Clunk(3)", s.Clunk(3), api.OK)
	}
}

func TestP5CreateWhereAllIsGone(t *testing.T) {
	s := grown(t, "a/", "b/", "f")
	wantWalk(t, s, 1, 2, "a", 1, api.OK)
	wantWalk(t, s, 1, 3, "f", 1, api.OK)
	lose(t, s, "f")
	a := dirAt(t, s, "a")
	lose(t, s, "a")
	want(t, "Create in a gone directory", s.Create(2, "x", true), api.ErrGone)
	want(t, "Create in a gone file", s.Create(3, "x", true), api.ErrGone)
	want(t, "Create of what is gone", s.Create(1, "a", false), api.OK)
	if len(a.entries) != 0 {
		t.Errorf("a gone directory has entries")
	}
}

// What is made in a row is made in its first member that may; a name that any member has is there already.
func TestP5CreateInRows(t *testing.T) {
	s := grown(t, "a/", "b/", "b/g", "c/", "d/")
	a, b, c := dirAt(t, s, "a"), dirAt(t, s, "b"), dirAt(t, s, "c")
	bind(t, s, "c", "a", api.Before|api.Leave, api.OK)
	bind(t, s, "b", "a", api.Before, api.OK)
	for _, fid := range []int{2, 3, 4} {
		wantWalk(t, s, 1, fid, "a", 1, api.OK)
	}
	want(t, "a name of the first member", s.Create(2, "g", true), api.ErrExists)
	want(t, "a new name", s.Create(2, "x", true), api.OK)
	if c.entries["x"] != s.fids[2].at.node || len(a.entries) != 0 || len(b.entries) != 1 {
		t.Errorf("x is not made in the first member that may")
	}
	wantPath(t, s, 2, "/a/x open")
	want(t, "a name of the second member", s.Create(3, "x", true), api.ErrExists)
	bind(t, s, "d", "d", api.Replace, api.OK)
	bind(t, s, "b", "d", api.After, api.OK)
	wantWalk(t, s, 1, 5, "d", 1, api.OK)
	want(t, "no member may", s.Create(5, "y", false), api.ErrDenied)
	want(t, "a name that is there where no member may", s.Create(5, "g", false), api.ErrExists)
	wantPath(t, s, 5, "/d")
	bind(t, s, "c", "d", api.After|api.Leave, api.OK)
	wantWalk(t, s, 1, 6, "d", 1, api.OK)
	want(t, "the last member alone may", s.Create(6, "y", false), api.OK)
	if c.entries["y"] != s.fids[6].at.node {
		t.Errorf("y is not made in the last member")
	}
	want(t, "the row as it was when it was come to", s.Create(5, "z", false), api.ErrDenied)
	unbind(t, s, "a", api.OK)
	unbind(t, s, "d", api.OK)
	for _, names := range []string{"c x", "c y", "c"} {
		lose(t, s, names)
	}
	want(t, "a name of a member that is gone", s.Create(3, "x", true), api.OK)
	if a.entries["x"] != s.fids[3].at.node || len(c.entries) != 0 {
		t.Errorf("x is not made in the first member that is not gone")
	}
	bind(t, s, "b", "a", api.Replace, api.OK)
	want(t, "the row as it was when it was come to", s.Create(4, "z", false), api.OK)
	if a.entries["z"] != s.fids[4].at.node {
		t.Errorf("z is not made in the row as it was")
	}
}

// The only member that had leave is gone: no other one takes its stead.
func TestP5CreateWhereTheMakerIsGone(t *testing.T) {
	s := grown(t, "a/", "b/", "c/")
	bind(t, s, "b", "a", api.Replace|api.Leave, api.OK)
	bind(t, s, "c", "a", api.After, api.OK)
	wantWalk(t, s, 1, 2, "a", 1, api.OK)
	unbind(t, s, "a", api.OK)
	lose(t, s, "b")
	want(t, "Create", s.Create(2, "x", false), api.ErrDenied)
	wantSeen(t, s, 2, 1, "")
}

func TestP5HundredNodes(t *testing.T) {
	s := grown(t)
	for i := range api.MaxNodes - 1 {
		wantWalk(t, s, 1, 2, "", 0, api.OK)
		want(t, "Create of node "+strconv.Itoa(i+2), s.Create(2, "n"+strconv.Itoa(i), i%2 == 0), api.OK)
		want(t, "Clunk(2)", s.Clunk(2), api.OK)
	}
	want(t, "one too many", s.Create(1, "more", false), api.ErrMany)
	want(t, "one that is there already", s.Create(1, "n0", false), api.ErrExists)
	wantPath(t, s, 1, "/")
	wantWalk(t, s, 1, 2, "more", 0, api.ErrNone)
	lose(t, s, "n98")
	want(t, "those that are gone don't count", s.Create(1, "more", false), api.OK)
	want(t, "Attach(3)", s.Attach(3), api.OK)
	want(t, "full again", s.Create(3, "again", true), api.ErrMany)
}
