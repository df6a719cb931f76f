package warren

import (
	"strings"
	"testing"

	"warren/api"
)

func TestP4Walk(t *testing.T) {
	for _, c := range []struct {
		names string
		steps int
		want  api.Errno
		path  string
	}{
		{"", 0, api.OK, "/"},
		{".", 1, api.OK, "/"},
		{"..", 1, api.OK, "/"},
		{".. .. .. a", 4, api.OK, "/a"},
		{"a", 1, api.OK, "/a"},
		{"a b f", 3, api.OK, "/a/b/f"},
		{"a . b .", 4, api.OK, "/a/b"},
		{"a b ..", 3, api.OK, "/a"},
		{"a b .. b f", 5, api.OK, "/a/b/f"},
		{"a b f . .. ..", 6, api.OK, "/a"},
		{"a b f .. .. .. ..", 7, api.OK, "/"},
		{"x", 0, api.ErrNone, ""},
		{"a x y", 1, api.ErrNone, ""},
		{"b", 0, api.ErrNone, ""},
		{"a b f g", 3, api.ErrDir, ""},
		{"a b f f", 3, api.ErrDir, ""},
		{"A", 0, api.ErrNone, ""},
		{"...", 0, api.ErrNone, ""},
		{"a .. x", 2, api.ErrNone, ""},
	} {
		for _, to := range []int{1, 2} {
			s := grown(t, "a/", "a/b/", "a/b/f")
			wantWalk(t, s, 1, to, c.names, c.steps, c.want)
			switch {
			case c.want == api.OK:
				wantPath(t, s, to, c.path)
			case to == 1:
				wantPath(t, s, to, "/")
			default:
				wantPath(t, s, to, "nowhere")
			}
			if to != 1 {
				wantPath(t, s, 1, "/")
			}
		}
	}
}

func TestP4Bounds(t *testing.T) {
	s := grown(t, "a/")
	wantWalk(t, s, 1, 0, "a", 1, api.OK)
	wantWalk(t, s, 1, 50, "a", 1, api.OK)
	for _, to := range numbers {
		if to < 0 || to > api.MaxFid {
			wantWalk(t, s, 1, to, "a", 0, api.ErrArg)
		}
	}
	sixteen := strings.Repeat("a .. ", 8)
	wantWalk(t, s, 1, 2, sixteen, 16, api.OK)
	wantWalk(t, s, 1, 3, sixteen+"a", 0, api.ErrMany)
	wantWalk(t, s, 1, 1, sixteen+"a", 0, api.ErrMany)
	wantPath(t, s, 3, "nowhere")
	if n, e := s.Walk(1, 3, make([]string, 1<<20)...); n != 0 || e != api.ErrMany {
		t.Errorf("a million names: %d, %d", n, e)
	}
}

func TestP4Names(t *testing.T) {
	s := grown(t, "a/")
	for _, name := range wrongNames {
		for _, names := range [][]string{{name}, {"a", name}, {"x", name}, {name, "x"}} {
			if n, e := s.Walk(1, 2, names...); n != 0 || e != api.ErrName {
				t.Errorf("Walk of %.20q: %d, %d", names, n, e)
			}
		}
	}
	for _, name := range rightNames[3:] {
		wantWalk(t, s, 1, 2, name, 0, api.ErrNone)
	}
	for c := range 256 {
		name := "a" + string([]byte{byte(c)})
		wanted := api.ErrNone
		if c < 33 || c > 126 || c == '/' {
			wanted = api.ErrName
		}
		if _, e := s.Walk(1, 2, name); e != wanted {
			t.Errorf("Walk of %q: %d, want %d", name, e, wanted)
		}
	}
}

func TestP4To(t *testing.T) {
	s := grown(t, "a/", "a/b/")
	wantWalk(t, s, 1, 2, "a", 1, api.OK)
	wantWalk(t, s, 1, 2, "a b", 0, api.ErrFid)
	wantWalk(t, s, 2, 1, "", 0, api.ErrFid)
	wantWalk(t, s, 2, 2, "b", 1, api.OK)
	wantPath(t, s, 2, "/a/b")
	wantPath(t, s, 1, "/")
	wantWalk(t, s, 2, 3, "", 0, api.OK)
	want(t, "Open(2)", s.Open(2), api.OK)
	wantPath(t, s, 3, "/a/b")
	wantWalk(t, s, 2, 4, "", 0, api.ErrOpen)
	wantWalk(t, s, 2, 2, "..", 0, api.ErrOpen)
	wantWalk(t, s, 1, 2, "", 0, api.ErrFid)
	wantWalk(t, s, 3, 3, ".. ..", 2, api.OK)
	wantPath(t, s, 3, "/")
}

// From a node that is gone only . and .. lead on.
func TestP4Gone(t *testing.T) {
	s := grown(t, "a/", "a/b/", "a/b/c/", "f")
	wantWalk(t, s, 1, 2, "a b c", 3, api.OK)
	wantWalk(t, s, 1, 3, "f", 1, api.OK)
	lose(t, s, "a b c")
	lose(t, s, "a b")
	lose(t, s, "f")
	wantWalk(t, s, 2, 4, "x", 0, api.ErrGone)
	wantWalk(t, s, 3, 4, "x", 0, api.ErrGone)
	wantWalk(t, s, 2, 4, ". .. c", 2, api.ErrGone)
	wantWalk(t, s, 2, 4, "", 0, api.OK)
	wantPath(t, s, 4, "/a/b/c")
	wantWalk(t, s, 2, 5, "..", 1, api.OK)
	wantPath(t, s, 5, "/a/b")
	wantWalk(t, s, 5, 5, "..", 1, api.OK)
	wantWalk(t, s, 5, 6, "b", 0, api.ErrNone)
	wantWalk(t, s, 3, 3, ".. a", 2, api.OK)
	wantPath(t, s, 3, "/a")
}

// In a row the first member that has the name gives it; members that are gone are passed over.
func TestP4Rows(t *testing.T) {
	s := grown(t, "a/", "a/f", "b/", "b/f", "b/g/", "c/")
	fill(t, s, "a f", "a's")
	fill(t, s, "b f", "b's")
	bind(t, s, "b", "a", api.Before, api.OK)
	bind(t, s, "c", "a", api.Before, api.OK)
	opened(t, s, 2, "a f")
	wantRead(t, s, 2, 0, 9, "b's", api.OK)
	wantWalk(t, s, 1, 3, "a g", 2, api.OK)
	wantPath(t, s, 3, "/a/g")
	wantWalk(t, s, 1, 4, "a x", 1, api.ErrNone)
	wantWalk(t, s, 1, 5, "a", 1, api.OK)
	unbind(t, s, "a", api.OK)
	for _, names := range []string{"b f", "b g", "b"} {
		lose(t, s, names)
	}
	wantWalk(t, s, 5, 6, "f", 1, api.OK)
	want(t, "Open(6)", s.Open(6), api.OK)
	wantRead(t, s, 6, 0, 9, "a's", api.OK)
	wantWalk(t, s, 5, 7, "g", 0, api.ErrNone)
	lose(t, s, "c")
	lose(t, s, "a f")
	wantWalk(t, s, 5, 7, "f", 0, api.ErrNone)
}

// A place has the row as it was when it was come to by Attach, a name or Create; ., .. and a walk without names keep it.
func TestP4RowsStayAsTheyWere(t *testing.T) {
	s := grown(t, "a/", "a/d/", "b/", "b/g")
	wantWalk(t, s, 1, 2, "a", 1, api.OK)
	wantWalk(t, s, 1, 3, "a d", 2, api.OK)
	want(t, "Attach(9)", s.Attach(9), api.OK)
	want(t, "Create", s.Create(9, "new", true), api.OK)
	bind(t, s, "b", "a", api.Replace, api.OK)
	bind(t, s, "b", "", api.After, api.OK)
	want(t, "Bind onto what was made", s.Bind(2, 9, api.Before), api.OK)
	for _, way := range []string{"", ".", ". ."} {
		wantWalk(t, s, 2, 2, way, len(strings.Fields(way)), api.OK)
		wantWalk(t, s, 2, 4, "g", 0, api.ErrNone)
	}
	wantWalk(t, s, 3, 4, ".. g", 1, api.ErrNone)
	wantWalk(t, s, 3, 4, ".. d", 2, api.OK)
	wantWalk(t, s, 2, 5, ".. g", 1, api.ErrNone)
	wantWalk(t, s, 1, 5, "g", 0, api.ErrNone)
	wantWalk(t, s, 2, 5, ".. a g", 3, api.OK)
	wantWalk(t, s, 1, 6, "a d", 1, api.ErrNone)
	want(t, "Attach(7)", s.Attach(7), api.OK)
	wantWalk(t, s, 7, 8, "g", 1, api.OK)
	wantList(t, s, 9, "", api.OK)
	wantWalk(t, s, 1, 10, "new d", 2, api.OK)
}
