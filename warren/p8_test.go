package warren

import (
	"strconv"
	"strings"
	"testing"

	"warren/api"
)

func TestP8Remove(t *testing.T) {
	s := grown(t, "a/", "a/f", "a/g")
	wantWalk(t, s, 1, 2, "a f", 2, api.OK)
	want(t, "Remove of a file", s.Remove(2), api.OK)
	wantPath(t, s, 2, "nowhere")
	wantWalk(t, s, 1, 3, "a f", 1, api.ErrNone)
	wantWalk(t, s, 1, 3, "a g", 2, api.OK)
	want(t, "Open(3)", s.Open(3), api.OK)
	want(t, "Remove of a file that is open", s.Remove(3), api.OK)
	wantPath(t, s, 3, "nowhere")
	wantWalk(t, s, 1, 4, "a", 1, api.OK)
	want(t, "Remove of a directory without entries", s.Remove(4), api.OK)
	wantWalk(t, s, 1, 4, "a", 0, api.ErrNone)
	opened(t, s, 5, "")
	wantList(t, s, 5, "", api.OK)
	if s.tree.nodes != 1 {
		t.Errorf("nodes: %d", s.tree.nodes)
	}
}

// Whatever comes of it, the fid stands nowhere, and may be used again; others stay.
func TestP8FidStandsNowhere(t *testing.T) {
	s := grown(t, "a/", "a/f", "g")
	for _, c := range []struct {
		names string
		open  bool
		e     api.Errno
	}{
		{"", false, api.ErrDenied},
		{"", true, api.ErrDenied},
		{"a", false, api.ErrBusy},
		{"a", true, api.ErrBusy},
		{"g", true, api.OK},
		{"a f", false, api.OK},
		{"a", true, api.OK},
	} {
		opened(t, s, 3, c.names)
		wantWalk(t, s, 1, 2, c.names, len(strings.Fields(c.names)), api.OK)
		if c.open {
			want(t, "Open(2)", s.Open(2), api.OK)
		}
		before := path(s, 3)
		want(t, "Remove of "+c.names, s.Remove(2), c.e)
		wantPath(t, s, 2, "nowhere")
		wantPath(t, s, 1, "/")
		wantPath(t, s, 3, before)
		want(t, "Remove again", s.Remove(2), api.ErrFid)
		if c.e == api.OK {
			want(t, "Remove of what is gone", s.Remove(3), api.ErrGone)
			wantPath(t, s, 3, "nowhere")
		} else {
			want(t, "Clunk(3)", s.Clunk(3), api.OK)
		}
		want(t, "Attach(2)", s.Attach(2), api.OK)
		wantPath(t, s, 2, "/")
		want(t, "Clunk(2)", s.Clunk(2), api.OK)
	}
}

func TestP8Errors(t *testing.T) {
	s := grown(t, "a/", "a/b/", "a/b/c/")
	for _, fid := range numbers {
		if fid != 1 {
			want(t, "Remove of one that stands nowhere", s.Remove(fid), api.ErrFid)
		}
	}
	wantWalk(t, s, 1, 2, "a b", 2, api.OK)
	wantWalk(t, s, 1, 3, "a b c", 3, api.OK)
	wantWalk(t, s, 1, 4, "a b c", 3, api.OK)
	wantWalk(t, s, 1, 5, "a b", 2, api.OK)
	wantWalk(t, s, 1, 6, "a b", 2, api.OK)
	want(t, "Remove of b with c", s.Remove(2), api.ErrBusy)
	want(t, "Remove of c", s.Remove(3), api.OK)
	want(t, "Remove of c, which is gone", s.Remove(4), api.ErrGone)
	want(t, "Remove of b without c", s.Remove(5), api.OK)
	want(t, "Remove of b, which is gone", s.Remove(6), api.ErrGone)
	want(t, "Remove of the root with entries", s.Remove(1), api.ErrDenied)
	want(t, "Attach(1)", s.Attach(1), api.OK)
	lose(t, s, "a")
	want(t, "Remove of the root alone", s.Remove(1), api.ErrDenied)
	want(t, "Attach(1)", s.Attach(1), api.OK)
	wantStat(t, s, 1, api.Stat{Name: "/", Dir: true, Row: 1}, api.OK)
	bind(t, s, "", "", api.Replace, api.OK)
	want(t, "Remove of the root, onto which something is bound", s.Remove(1), api.ErrDenied)
}

// A directory is busy if something is bound onto it, or if it is a member of a row as it is now: by its own node, wherever the other one lies.
func TestP8Bound(t *testing.T) {
	s := grown(t, "a/", "b/", "c/", "c/d/", "e/")
	try := func(names string, e api.Errno) {
		t.Helper()
		opened(t, s, 2, names)
		want(t, "Remove of "+names, s.Remove(2), e)
		wantPath(t, s, 2, "nowhere")
	}
	bind(t, s, "b", "a", api.After, api.OK)
	try("a", api.ErrBusy)
	try("b", api.ErrBusy)
	bind(t, s, "a", "a", api.Replace|api.Leave, api.OK)
	try("a", api.ErrBusy)
	bind(t, s, "b", "a", api.Replace, api.OK)
	try("a", api.ErrBusy)
	try("b", api.ErrBusy)
	unbind(t, s, "a", api.OK)
	lay(t, s, "c d", []string{"a", "b", "a"})
	try("a", api.ErrBusy)
	try("b", api.ErrBusy)
	try("c d", api.ErrBusy)
	unbind(t, s, "c d", api.OK)
	bind(t, s, "b", "", api.After, api.OK)
	try("b", api.ErrBusy)
	unbind(t, s, "", api.OK)
	wantWalk(t, s, 1, 3, "c d", 2, api.OK)
	try("c d", api.OK)
	try("e", api.OK)
	try("a", api.OK)
	try("b", api.OK)
	try("c", api.OK)
	want(t, "Open of a gone one", s.Open(3), api.ErrGone)
}

// What lies in a directory that is bound may be removed, also by the row in which it is seen; it is an entry of its own directory alone.
func TestP8EntriesSeenInRows(t *testing.T) {
	s := grown(t, "a/", "a/f", "b/", "b/f", "b/g")
	fill(t, s, "a f", "a's")
	bind(t, s, "b", "a", api.Before, api.OK)
	lose(t, s, "a f")
	opened(t, s, 2, "a f")
	wantRead(t, s, 2, 0, 9, "a's", api.OK)
	wantWalk(t, s, 1, 3, "b f", 1, api.ErrNone)
	lose(t, s, "a g")
	wantWalk(t, s, 1, 3, "b g", 1, api.ErrNone)
	wantWalk(t, s, 1, 3, "b", 1, api.OK)
	want(t, "Remove of b, empty and bound", s.Remove(3), api.ErrBusy)
}

// What a fid saw when it came to its place does not keep it from being removed.
func TestP8RowsAsTheyWereDontCount(t *testing.T) {
	s := grown(t, "a/", "b/", "b/f")
	bind(t, s, "b", "a", api.After, api.OK)
	opened(t, s, 2, "a")
	wantWalk(t, s, 1, 3, "a f", 2, api.OK)
	wantWalk(t, s, 1, 4, "a", 1, api.OK)
	unbind(t, s, "a", api.OK)
	lose(t, s, "a")
	wantWalk(t, s, 3, 5, "..", 1, api.OK)
	wantStat(t, s, 5, api.Stat{}, api.ErrGone)
	wantWalk(t, s, 3, 6, ".. f", 1, api.ErrGone)
	wantWalk(t, s, 3, 6, ".. ..", 2, api.OK)
	wantStat(t, s, 3, api.Stat{Name: "f"}, api.OK)
	wantList(t, s, 2, "", api.ErrGone)
	want(t, "Remove of f by a place behind one that is gone", s.Remove(3), api.OK)
	wantWalk(t, s, 1, 7, "b f", 1, api.ErrNone)
	lose(t, s, "b")
	want(t, "Create where all is gone", s.Create(4, "x", true), api.ErrGone)
}

// Fids that still stand at what is gone: what is made in its stead is another node.
func TestP8Gone(t *testing.T) {
	s := grown(t, "a/", "f")
	wantWalk(t, s, 1, 2, "a", 1, api.OK)
	opened(t, s, 3, "a")
	wantWalk(t, s, 1, 4, "f", 1, api.OK)
	opened(t, s, 5, "f")
	wantWrite(t, s, 5, 0, "old", api.OK)
	lose(t, s, "a")
	lose(t, s, "f")
	want(t, "Attach(6)", s.Attach(6), api.OK)
	want(t, "Create of f", s.Create(6, "f", true), api.OK)
	want(t, "Attach(7)", s.Attach(7), api.OK)
	want(t, "Create of a", s.Create(7, "a", false), api.OK)
	wantRead(t, s, 7, 0, 9, "", api.OK)
	wantStat(t, s, 7, api.Stat{Name: "a"}, api.OK)
	wantStat(t, s, 2, api.Stat{}, api.ErrGone)
	wantRead(t, s, 5, 0, 9, "", api.ErrGone)
	wantWrite(t, s, 5, 0, "x", api.ErrGone)
	wantList(t, s, 3, "", api.ErrGone)
	want(t, "Open(4)", s.Open(4), api.ErrGone)
	want(t, "Create in a gone one", s.Create(2, "x", false), api.ErrGone)
	wantWalk(t, s, 2, 8, "..", 1, api.OK)
	wantPath(t, s, 8, "/")
	wantWalk(t, s, 2, 9, ".. a", 2, api.OK)
	wantStat(t, s, 9, api.Stat{Name: "a"}, api.OK)
	want(t, "Remove by a fid of the old f", s.Remove(4), api.ErrGone)
	wantWalk(t, s, 1, 10, "f", 1, api.OK)
	wantStat(t, s, 10, api.Stat{Name: "f", Dir: true, Row: 1}, api.OK)
}

// Nodes that are gone make room for others, though fids still stand at them.
func TestP8RoomForOthers(t *testing.T) {
	s := grown(t)
	make1 := func(i int, e api.Errno) {
		want(t, "Attach(2)", s.Attach(2), api.OK)
		want(t, "Create", s.Create(2, "n"+strconv.Itoa(i), i%2 == 0), e)
		want(t, "Clunk(2)", s.Clunk(2), api.OK)
	}
	for i := range api.MaxNodes - 1 {
		make1(i, api.OK)
	}
	for i := range 3 * api.MaxNodes {
		make1(i+99, api.ErrMany)
		if fid := 3 + i; fid < 40 {
			wantWalk(t, s, 1, fid, "n"+strconv.Itoa(i), 1, api.OK)
		}
		lose(t, s, "n"+strconv.Itoa(i))
		make1(i+99, api.OK)
		make1(i+199, api.ErrMany)
	}
	for fid := 3; fid < 40; fid++ {
		want(t, "a fid at a gone node", s.Remove(fid), api.ErrGone)
	}
	make1(1000, api.ErrMany)
}
