package warren

import (
	"math"
	"strings"
	"testing"

	"warren/api"
)

// filed is a Server with fid 1 at the root, and fid 2, open, at the file f, written once with that text.
func filed(t *testing.T, text string) *Server {
	t.Helper()
	s := grown(t, "f", "d/")
	wantWalk(t, s, 1, 2, "f", 1, api.OK)
	want(t, "Open(2)", s.Open(2), api.OK)
	wantWrite(t, s, 2, 0, text, api.OK)
	return s
}

func TestP6Read(t *testing.T) {
	s := filed(t, "hello")
	for _, c := range []struct {
		at, n int
		want  string
		e     api.Errno
	}{
		{0, 5, "hello", api.OK},
		{0, 4, "hell", api.OK},
		{0, 6, "hello", api.OK},
		{0, 0, "", api.OK},
		{2, 2, "ll", api.OK},
		{2, 3, "llo", api.OK},
		{2, 4, "llo", api.OK},
		{4, 1, "o", api.OK},
		{4, 9, "o", api.OK},
		{5, 0, "", api.OK},
		{5, 1, "", api.OK},
		{6, 1, "", api.OK},
		{300, 300, "", api.OK},
		{301, 1, "", api.OK},
		{0, math.MaxInt, "hello", api.OK},
		{1, math.MaxInt, "ello", api.OK},
		{math.MaxInt, 0, "", api.OK},
		{math.MaxInt, 1, "", api.OK},
		{math.MaxInt, math.MaxInt, "", api.OK},
		{-1, 0, "", api.ErrArg},
		{-1, 5, "", api.ErrArg},
		{0, -1, "", api.ErrArg},
		{5, -1, "", api.ErrArg},
		{9, -1, "", api.ErrArg},
		{-1, -1, "", api.ErrArg},
		{math.MinInt, 1, "", api.ErrArg},
		{0, math.MinInt, "", api.ErrArg},
		{math.MinInt, math.MaxInt, "", api.ErrArg},
		{math.MaxInt, math.MinInt, "", api.ErrArg},
	} {
		wantRead(t, s, 2, c.at, c.n, c.want, c.e)
	}
	empty := grown(t)
	want(t, "Create", empty.Create(1, "f", false), api.OK)
	wantRead(t, empty, 1, 0, 1, "", api.OK)
	wantRead(t, empty, 1, 0, 0, "", api.OK)
	wantRead(t, empty, 1, 7, 7, "", api.OK)
}

// Each write after the ones before it: what the file then is; its version counts those that were answered OK.
func TestP6Write(t *testing.T) {
	s := grown(t)
	want(t, "Create", s.Create(1, "f", false), api.OK)
	y300 := strings.Repeat("y", 300)
	version := 0
	for _, c := range []struct {
		at   int
		data string
		e    api.Errno
		want string
	}{
		{0, "", api.OK, ""},
		{7, "", api.OK, ""},
		{300, "", api.OK, ""},
		{301, "", api.ErrBig, ""},
		{-1, "", api.ErrArg, ""},
		{2, "hi", api.OK, "\x00\x00hi"},
		{4, "", api.OK, "\x00\x00hi"},
		{5, "", api.OK, "\x00\x00hi"},
		{4, "!", api.OK, "\x00\x00hi!"},
		{0, "ab", api.OK, "abhi!"},
		{4, "?!", api.OK, "abhi?!"},
		{8, "\xff", api.OK, "abhi?!\x00\x00\xff"},
		{0, "", api.OK, "abhi?!\x00\x00\xff"},
		{1, "\x00", api.OK, "a\x00hi?!\x00\x00\xff"},
		{0, y300 + "y", api.ErrBig, "a\x00hi?!\x00\x00\xff"},
		{1, y300, api.ErrBig, "a\x00hi?!\x00\x00\xff"},
		{300, "y", api.ErrBig, "a\x00hi?!\x00\x00\xff"},
		{299, "yy", api.ErrBig, "a\x00hi?!\x00\x00\xff"},
		{-1, y300 + "y", api.ErrArg, "a\x00hi?!\x00\x00\xff"},
		{math.MinInt, "y", api.ErrArg, "a\x00hi?!\x00\x00\xff"},
		{math.MaxInt, "", api.ErrBig, "a\x00hi?!\x00\x00\xff"},
		{math.MaxInt, "y", api.ErrBig, "a\x00hi?!\x00\x00\xff"},
		{math.MaxInt - 1, y300, api.ErrBig, "a\x00hi?!\x00\x00\xff"},
		{0, strings.Repeat("y", 1<<20), api.ErrBig, "a\x00hi?!\x00\x00\xff"},
		{299, "y", api.OK, "a\x00hi?!\x00\x00\xff" + strings.Repeat("\x00", 290) + "y"},
		{0, y300, api.OK, y300},
		{300, "", api.OK, y300},
		{0, "z", api.OK, "z" + y300[1:]},
		{299, "z", api.OK, "z" + y300[2:] + "z"},
	} {
		if c.e == api.OK {
			version++
		}
		wantWrite(t, s, 1, c.at, c.data, c.e)
		wantRead(t, s, 1, 0, math.MaxInt, c.want, api.OK)
		if x, e := s.Stat(1); x != (api.Stat{Name: "f", Size: len(c.want), Version: version}) || e != api.OK {
			t.Fatalf("after Write(%d, %.20q): %+v, %d, want size %d, version %d", c.at, c.data, x, e, len(c.want), version)
		}
	}
	if n, e := s.Write(1, 301, nil); n != 0 || e != api.ErrBig {
		t.Errorf("Write without data beyond the end: %d, %d", n, e)
	}
	if n, e := s.Write(1, 300, nil); n != 0 || e != api.OK {
		t.Errorf("Write without data at the end: %d, %d", n, e)
	}
}

// Two fids at one file see the same bytes; those of other files stay.
func TestP6FidsOfOneFile(t *testing.T) {
	s := filed(t, "one")
	want(t, "Attach(3)", s.Attach(3), api.OK)
	want(t, "Create g", s.Create(3, "g", false), api.OK)
	wantWalk(t, s, 1, 4, "f", 1, api.OK)
	want(t, "Open(4)", s.Open(4), api.OK)
	wantWrite(t, s, 4, 3, " two", api.OK)
	wantWrite(t, s, 3, 1, "g", api.OK)
	wantRead(t, s, 2, 0, 99, "one two", api.OK)
	wantRead(t, s, 3, 0, 99, "\x00g", api.OK)
	want(t, "Clunk(2)", s.Clunk(2), api.OK)
	want(t, "Clunk(4)", s.Clunk(4), api.OK)
	wantWalk(t, s, 1, 2, "d .. f", 3, api.OK)
	want(t, "Open(2)", s.Open(2), api.OK)
	wantRead(t, s, 2, 4, 99, "two", api.OK)
}

// Fid by fid fewer faults apply; each answer is the first of those that P6 names.
func TestP6OrderOfErrors(t *testing.T) {
	s := filed(t, "hello")
	wantWalk(t, s, 1, 3, "f", 1, api.OK)
	wantWalk(t, s, 1, 4, "d", 1, api.OK)
	wantWalk(t, s, 1, 5, "d", 1, api.OK)
	want(t, "Open(5)", s.Open(5), api.OK)
	want(t, "Attach(6)", s.Attach(6), api.OK)
	want(t, "Open(6)", s.Open(6), api.OK)
	want(t, "Attach(7)", s.Attach(7), api.OK)
	want(t, "Create g", s.Create(7, "g", false), api.OK)
	lose(t, s, "f")
	lose(t, s, "d")
	big := strings.Repeat("b", 301)
	for _, c := range []struct {
		fid int
		e   api.Errno
		why string
	}{
		{9, api.ErrFid, "nowhere"},
		{51, api.ErrFid, "no fid"},
		{3, api.ErrOpen, "not open, gone"},
		{4, api.ErrOpen, "not open, gone, a directory"},
		{1, api.ErrOpen, "not open, a directory"},
		{2, api.ErrGone, "gone"},
		{5, api.ErrGone, "gone, a directory"},
		{6, api.ErrDir, "a directory"},
		{7, api.ErrArg, "at and n below 0"},
	} {
		b, e := s.Read(c.fid, -1, -1)
		if len(b) != 0 || e != c.e {
			t.Errorf("Read, %s: %q, %d, want %d", c.why, b, e, c.e)
		}
		n, e := s.Write(c.fid, -1, []byte(big))
		if n != 0 || e != c.e {
			t.Errorf("Write, %s: %d, %d, want %d", c.why, n, e, c.e)
		}
	}
	wantWrite(t, s, 7, 0, big, api.ErrBig)
	wantWrite(t, s, 7, 0, big[1:], api.OK)
}
