package warren

import (
	"slices"
	"testing"
	"unsafe"

	"warren/api"
)

func TestP2NamesAreNotWrittenInto(t *testing.T) {
	s := grown(t, "a/", "a/b/")
	backing := []string{"a", ".", "b", "..", "x", "rest"}
	kept := slices.Clone(backing)
	s.Walk(1, 2, backing[:4]...)
	s.Walk(1, 3, backing[:5]...)
	if !slices.Equal(backing, kept) {
		t.Errorf("the names are now %q", backing)
	}
	backing[0] = "zzz"
	wantPath(t, s, 2, "/a")
}

// A text whose bytes are written over later: the tree must have a copy.
func TestP2NamesAreNotKept(t *testing.T) {
	s := &Server{}
	want(t, "Attach(1)", s.Attach(1), api.OK)
	for _, dir := range []bool{false, true} {
		raw := []byte("file")
		if dir {
			raw = []byte("dir")
		}
		name := string(raw)
		want(t, "Attach(2)", s.Attach(2), api.OK)
		want(t, "Create", s.Create(2, unsafe.String(&raw[0], len(raw)), dir), api.OK)
		raw[0] = 'X'
		wantPath(t, s, 2, "/"+name+" open")
		wantWalk(t, s, 1, 3, name, 1, api.OK)
		want(t, "Create again", s.Create(1, name, dir), api.ErrExists)
		want(t, "Clunk(2)", s.Clunk(2), api.OK)
		want(t, "Clunk(3)", s.Clunk(3), api.OK)
	}
}

func TestP2ServersKnowNothingOfEachOther(t *testing.T) {
	var a, b Server
	want(t, "a: Attach(1)", a.Attach(1), api.OK)
	want(t, "a: Create", a.Create(1, "d", true), api.OK)
	want(t, "b: Open(1)", b.Open(1), api.ErrFid)
	want(t, "b: Attach(1)", b.Attach(1), api.OK)
	wantWalk(t, &b, 1, 2, "d", 0, api.ErrNone)
	want(t, "b: Create", b.Create(1, "e", true), api.OK)
	want(t, "a: Attach(2)", a.Attach(2), api.OK)
	wantWalk(t, &a, 2, 3, "e", 0, api.ErrNone)
	if a.tree.nodes != 2 || b.tree.nodes != 2 || a.Calls() != 4 || b.Calls() != 4 {
		t.Errorf("nodes %d, %d, calls %d, %d", a.tree.nodes, b.tree.nodes, a.Calls(), b.Calls())
	}
}
