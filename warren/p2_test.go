package warren

import (
	"slices"
	"strings"
	"testing"
	"unsafe"

	"warren/api"
)

func TestP2NamesAreNotWrittenInto(t *testing.T) {
	s := grown(t, "a/", "a/b/")
	backing := []string{"a", ".", "b", "..", "x", "rest"}
	kept := slices.Clone(backing)
	s.Walk(1, 2, backing[:4]...)
	s.Walk(1, 3, backing[:5]...)
	if !slices.Equal(backing, kept) {
		t.Errorf("the names are now %q", backing)
	}
	backing[0] = "zzz"
	wantPath(t, s, 2, "/a")
}

// A text whose bytes are written over later: the tree must have a copy.
func TestP2NamesAreNotKept(t *testing.T) {
	s := &Server{}
	want(t, "Attach(1)", s.Attach(1), api.OK)
	for _, dir := range []bool{false, true} {
		raw := []byte("file")
		if dir {
			raw = []byte("dir")
		}
		name := string(raw)
		want(t, "Attach(2)", s.Attach(2), api.OK)
		want(t, "Create", s.Create(2, unsafe.String(&raw[0], len(raw)), dir), api.OK)
		raw[0] = 'X'
		wantPath(t, s, 2, "/"+name+" open")
		wantWalk(t, s, 1, 3, name, 1, api.OK)
		want(t, "Create again", s.Create(1, name, dir), api.ErrExists)
		want(t, "Clunk(2)", s.Clunk(2), api.OK)
		want(t, "Clunk(3)", s.Clunk(3), api.OK)
	}
}

func TestP2ServersKnowNothingOfEachOther(t *testing.T) {
	var a, b Server
	want(t, "a: Attach(1)", a.Attach(1), api.OK)
	want(t, "a: Create", a.Create(1, "d", true), api.OK)
	want(t, "b: Open(1)", b.Open(1), api.ErrFid)
	want(t, "b: Attach(1)", b.Attach(1), api.OK)
	wantWalk(t, &b, 1, 2, "d", 0, api.ErrNone)
	want(t, "b: Create", b.Create(1, "e", true), api.OK)
	want(t, "a: Attach(2)", a.Attach(2), api.OK)
	wantWalk(t, &a, 2, 3, "e", 0, api.ErrNone)
	if a.tree.nodes != 2 || b.tree.nodes != 2 || a.Calls() != 4 || b.Calls() != 4 {
		t.Errorf("nodes %d, %d, calls %d, %d", a.tree.nodes, b.tree.nodes, a.Calls(), b.Calls())
	}
}

// The data of a Write is copied, and only read.
func TestP2DataIsNotKept(t *testing.T) {
	s := grown(t)
	want(t, "Create", s.Create(1, "f", false), api.OK)
	backing := []byte("hello, and more")
	if n, e := s.Write(1, 0, backing[:5]); n != 5 || e != api.OK {
		t.Errorf("Write: %d, %d", n, e)
	}
	s.Write(1, 5, []byte("!"))
	s.Write(1, 1, []byte("E"))
	if string(backing) != "hello, and more" {
		t.Errorf("the data is now %q", backing)
	}
	for i := range backing {
		backing[i] = 'X'
	}
	wantRead(t, s, 1, 0, 99, "hEllo!", api.OK)
}

// scribble writes over all of a list, its spare room too.
func scribble[T any](list []T, with T) {
	list = list[:cap(list)]
	for i := range list {
		list[i] = with
	}
}

func TestP2BytesThatCameOutAreNew(t *testing.T) {
	s := grown(t)
	want(t, "Create", s.Create(1, "f", false), api.OK)
	for _, text := range []string{"", "hello", "hello, and much more", "bye"} {
		wantWrite(t, s, 1, 0, text, api.OK)
	}
	whole := "byelo, and much more"
	for at := range 25 {
		for _, n := range []int{0, 1, 7, 99} {
			b, _ := s.Read(1, at, n)
			other, _ := s.Read(1, at, n)
			kept := string(other)
			scribble(b, 'X')
			if string(other) != kept {
				t.Errorf("Read(%d, %d): two answers share memory", at, n)
			}
			wantRead(t, s, 1, 0, 99, whole, api.OK)
		}
	}
	b, _ := s.Read(1, 0, 3)
	wantWrite(t, s, 1, 0, "new", api.OK)
	if string(b) != "bye" {
		t.Errorf("what came out is now %q", b)
	}
	wantWrite(t, s, 1, 25, "end", api.OK)
	wantRead(t, s, 1, 0, 99, "new"+whole[3:]+"\x00\x00\x00\x00\x00end", api.OK)
}

func TestP2NamesThatCameOutAreNew(t *testing.T) {
	s := grown(t, "a/", "b", "c")
	want(t, "Open(1)", s.Open(1), api.OK)
	l, _ := s.List(1)
	other, _ := s.List(1)
	x, _ := s.Stat(1)
	for _, name := range append(slices.Clone(l), x.Name) {
		for _, kept := range []string{s.tree.root.name, s.tree.root.entries["a"].called(), s.tree.root.entries["b"].called(), other[0], other[1]} {
			if unsafe.StringData(name) == unsafe.StringData(kept) {
				t.Errorf("%s is the Server's own memory", name)
			}
		}
	}
	scribble(l, "X")
	if strings.Join(other, " ") != "a b c" {
		t.Errorf("two answers share memory: %q", other)
	}
	wantList(t, s, 1, "a b c", api.OK)
	for name := range s.tree.root.entries {
		if len(name) != 1 || name < "a" || name > "c" {
			t.Errorf("an entry is now %q", name)
		}
	}
}
