package warren

import (
	"math/rand"
	"slices"
	"strings"
	"testing"

	"warren/api"
)

func TestP7List(t *testing.T) {
	s := grown(t, "b/", "b/y", "a", "b/x/", "b/x/z")
	opened(t, s, 2, "")
	opened(t, s, 3, "b")
	opened(t, s, 4, "b x")
	wantList(t, s, 2, "a b", api.OK)
	wantList(t, s, 3, "x y", api.OK)
	wantList(t, s, 4, "z", api.OK)
	lose(t, s, "b x z")
	wantList(t, s, 4, "", api.OK)
	lose(t, s, "a")
	wantList(t, s, 2, "b", api.OK)
	want(t, "Attach(5)", s.Attach(5), api.OK)
	want(t, "Create", s.Create(5, "c", true), api.OK)
	wantList(t, s, 2, "b c", api.OK)
	wantList(t, s, 5, "", api.OK)
	empty := grown(t)
	want(t, "Open of an empty root", empty.Open(1), api.OK)
	wantList(t, empty, 1, "", api.OK)
}

// Names are told byte by byte: those of great letters ahead of small ones, a name ahead of those that go on from it, 10 ahead of 9.
func TestP7ListIsSorted(t *testing.T) {
	names := strings.Fields("! !! #a +1 - .a ... 0 10 100 9 A Z Za [ \\ _ a a! aa aaaaaaaaaaaa ab b z za { } ~ ~~")
	slices.Sort(names)
	r := rand.New(rand.NewSource(7))
	for range 20 {
		s := grown(t)
		for _, i := range r.Perm(len(names)) {
			want(t, "Attach(2)", s.Attach(2), api.OK)
			want(t, "Create of "+names[i], s.Create(2, names[i], i%2 == 0), api.OK)
			want(t, "Clunk(2)", s.Clunk(2), api.OK)
		}
		want(t, "Open(1)", s.Open(1), api.OK)
		wantList(t, s, 1, strings.Join(names, " "), api.OK)
	}
}

// A row's entries are told member by member, each name once, where it comes first; members that are gone are passed over.
func TestP7ListOfRows(t *testing.T) {
	s := grown(t, "a/", "a/f", "a/m", "b/", "b/g", "b/f", "b/c", "e/", "d/", "d/z", "d/a", "d/m")
	for _, c := range []struct{ row, want string }{
		{"a b", "f m c g"},
		{"b a", "c f g m"},
		{"d a b", "a m z f c g"},
		{"e b", "c f g"},
		{"b b e", "c f g"},
		{"e", ""},
		{"d", "a m z"},
	} {
		members := strings.Fields(c.row)
		lay(t, s, "a", members)
		wantWalk(t, s, 1, 2, "a", 1, api.OK)
		wantSeen(t, s, 2, len(members), c.want)
		want(t, "Clunk(2)", s.Clunk(2), api.OK)
	}
	lay(t, s, "a", []string{"b", "e", "d", "e"})
	wantWalk(t, s, 1, 2, "a", 1, api.OK)
	unbind(t, s, "a", api.OK)
	wantWalk(t, s, 1, 3, "a", 1, api.OK)
	wantSeen(t, s, 2, 4, "c f g a m z")
	wantSeen(t, s, 3, 1, "f m")
	for _, names := range []string{"e", "b g", "b f", "b c", "b"} {
		lose(t, s, names)
	}
	wantSeen(t, s, 2, 1, "a m z")
	for _, names := range []string{"d z", "d a", "d m", "d"} {
		lose(t, s, names)
	}
	wantSeen(t, s, 2, 0, "")
	wantStat(t, s, 2, api.Stat{Name: "a", Dir: true}, api.OK)
}

// lay lets a directory's row be those members.
func lay(t *testing.T, s *Server, onto string, members []string) {
	t.Helper()
	how := api.Replace
	for _, m := range members {
		bind(t, s, m, onto, how, api.OK)
		how = api.After
	}
}

func TestP7ListErrors(t *testing.T) {
	s := grown(t, "f", "g", "d/")
	opened(t, s, 2, "f")
	opened(t, s, 3, "d")
	opened(t, s, 4, "g")
	wantWalk(t, s, 1, 5, "f", 1, api.OK)
	wantWalk(t, s, 1, 6, "d", 1, api.OK)
	wantWalk(t, s, 1, 7, "g", 1, api.OK)
	lose(t, s, "f")
	lose(t, s, "d")
	wantList(t, s, 9, "", api.ErrFid)
	wantList(t, s, -1, "", api.ErrFid)
	wantList(t, s, 51, "", api.ErrFid)
	wantList(t, s, 1, "", api.ErrOpen)
	wantList(t, s, 5, "", api.ErrOpen)
	wantList(t, s, 6, "", api.ErrOpen)
	wantList(t, s, 7, "", api.ErrOpen)
	wantList(t, s, 2, "", api.ErrGone)
	wantList(t, s, 3, "", api.ErrGone)
	wantList(t, s, 4, "", api.ErrDir)
}

func TestP7Stat(t *testing.T) {
	s := grown(t, "a/", "a/f")
	wantStat(t, s, 1, api.Stat{Name: "/", Dir: true, Row: 1}, api.OK)
	wantWalk(t, s, 1, 2, "a", 1, api.OK)
	wantStat(t, s, 2, api.Stat{Name: "a", Dir: true, Row: 1}, api.OK)
	want(t, "Open(2)", s.Open(2), api.OK)
	wantStat(t, s, 2, api.Stat{Name: "a", Dir: true, Row: 1}, api.OK)
	wantWalk(t, s, 1, 3, "a f", 2, api.OK)
	wantStat(t, s, 3, api.Stat{Name: "f"}, api.OK)
	opened(t, s, 4, "a f")
	wantWrite(t, s, 4, 7, "abc", api.OK)
	wantWrite(t, s, 4, 0, "", api.OK)
	wantStat(t, s, 3, api.Stat{Name: "f", Size: 10, Version: 2}, api.OK)
	wantStat(t, s, 4, api.Stat{Name: "f", Size: 10, Version: 2}, api.OK)
	wantWalk(t, s, 3, 5, "..", 1, api.OK)
	wantStat(t, s, 5, api.Stat{Name: "a", Dir: true, Row: 1}, api.OK)
	lose(t, s, "a f")
	lose(t, s, "a")
	for _, fid := range []int{2, 3, 4, 5} {
		wantStat(t, s, fid, api.Stat{}, api.ErrGone)
	}
	for _, fid := range []int{9, -1, 51} {
		wantStat(t, s, fid, api.Stat{}, api.ErrFid)
	}
}
