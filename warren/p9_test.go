package warren

import (
	"math/rand"
	"slices"
	"strings"
	"testing"

	"warren/api"
)

// The document's example: directories a with f, b with f and g.
func TestP9Example(t *testing.T) {
	for _, c := range []struct {
		how       int
		list, own string
	}{
		{api.After, "f g", "a's"},
		{api.Before, "f g", "b's"},
	} {
		s := grown(t, "a/", "a/f", "b/", "b/f", "b/g")
		fill(t, s, "a f", "a's")
		fill(t, s, "b f", "b's")
		bind(t, s, "b", "a", c.how, api.OK)
		wantWalk(t, s, 1, 2, "a", 1, api.OK)
		wantSeen(t, s, 2, 2, c.list)
		opened(t, s, 3, "a f")
		wantRead(t, s, 3, 0, 9, c.own, api.OK)
		want(t, "Create", s.Create(2, "new", false), api.OK)
		wantWalk(t, s, 1, 4, "b new", 1, api.ErrNone)
		if dirAt(t, s, "a").entries["new"] == nil {
			t.Errorf("how %d: what is made is not made in a", c.how)
		}
		wantWalk(t, s, 1, 4, "b", 1, api.OK)
		want(t, "Remove of a directory that is bound", s.Remove(4), api.ErrBusy)
		wantPath(t, s, 4, "nowhere")
	}
}

// Each number: what is seen behind it, and where an entry is made, if anywhere.
func TestP9How(t *testing.T) {
	for _, c := range []struct {
		how     int
		e       api.Errno
		members int
		list    string
		maker   string
	}{
		{0, api.OK, 1, "g h", ""},
		{1, api.OK, 2, "g h f", "a"},
		{2, api.OK, 2, "f h g", "a"},
		{4, api.OK, 1, "g h", "b"},
		{5, api.OK, 2, "g h f", "b"},
		{6, api.OK, 2, "f h g", "a"},
		{3, api.ErrArg, 1, "f h", "a"},
		{7, api.ErrArg, 1, "f h", "a"},
	} {
		s := grown(t, "a/", "a/f", "a/h", "b/", "b/g", "b/h")
		wantWalk(t, s, 1, 3, "b", 1, api.OK)
		wantWalk(t, s, 1, 4, "a", 1, api.OK)
		bind(t, s, "b", "a", c.how, c.e)
		wantWalk(t, s, 1, 2, "a", 1, api.OK)
		wantSeen(t, s, 2, c.members, c.list)
		wantSeen(t, s, 3, 1, "g h")
		e, seen := s.Create(2, "x", true), map[string]string{"a": "f h", "b": "g h"}
		if (e == api.OK) != (c.maker != "") || e != api.OK && e != api.ErrDenied {
			t.Errorf("how %d: Create: %d", c.how, e)
		}
		seen[c.maker] += " x"
		wantSeen(t, s, 3, 1, seen["b"])
		wantSeen(t, s, 4, 1, seen["a"])
	}
}

func TestP9HowOutOfBounds(t *testing.T) {
	s := grown(t, "a/", "b/")
	wantWalk(t, s, 1, 2, "b", 1, api.OK)
	wantWalk(t, s, 1, 3, "a", 1, api.OK)
	before := dump(s)
	for how := -40; how <= 40; how++ {
		if how < 0 || how == 3 || how > 6 {
			want(t, "Bind", s.Bind(2, 3, how), api.ErrArg)
		}
	}
	for _, how := range numbers {
		if how < 0 || how > 6 {
			for more := range 8 {
				if far := how ^ more; far < 0 || far > 6 {
					want(t, "Bind", s.Bind(2, 3, far), api.ErrArg)
				}
			}
		}
	}
	if !slices.Equal(dump(s), before) {
		t.Errorf("Bind with an error laid something")
	}
	want(t, "Unbind", s.Unbind(3), api.ErrNone)
}

func TestP9MaxRow(t *testing.T) {
	for _, how := range []int{1, 2, 5, 6} {
		s := grown(t, "a/", "a/f", "b/", "b/g")
		for i := 2; i <= api.MaxRow; i++ {
			bind(t, s, "b", "a", how, api.OK)
			wantWalk(t, s, 1, 2, "a", 1, api.OK)
			wantStat(t, s, 2, api.Stat{Name: "a", Dir: true, Row: i}, api.OK)
			want(t, "Clunk(2)", s.Clunk(2), api.OK)
		}
		for _, more := range []int{1, 2, 5, 6} {
			bind(t, s, "b", "a", more, api.ErrMany)
			bind(t, s, "a", "a", more, api.ErrMany)
		}
		wantWalk(t, s, 1, 2, "a", 1, api.OK)
		wantStat(t, s, 2, api.Stat{Name: "a", Dir: true, Row: api.MaxRow}, api.OK)
		bind(t, s, "a", "b", how, api.OK)
		bind(t, s, "b", "a", api.Replace, api.OK)
		wantWalk(t, s, 1, 3, "a", 1, api.OK)
		wantSeen(t, s, 3, 1, "g")
		bind(t, s, "b", "a", how, api.OK)
	}
}

// From's node is laid, not the row that is seen there; onto's row is the one that it is now, not the one that the fid came to.
func TestP9NodesAndRows(t *testing.T) {
	s := grown(t, "a/", "a/f", "b/", "b/g", "c/", "c/h")
	wantWalk(t, s, 1, 2, "a", 1, api.OK)
	bind(t, s, "c", "b", api.Before, api.OK)
	bind(t, s, "b", "a", api.After, api.OK)
	wantWalk(t, s, 1, 3, "a", 1, api.OK)
	wantSeen(t, s, 3, 2, "f g")
	wantWalk(t, s, 1, 4, "c", 1, api.OK)
	want(t, "Bind by a fid that came ahead of another Bind", s.Bind(4, 2, api.Before), api.OK)
	wantWalk(t, s, 1, 5, "a", 1, api.OK)
	wantSeen(t, s, 5, 3, "h f g")
	wantSeen(t, s, 2, 1, "f")
	want(t, "Bind of a fid that sees more than its node", s.Bind(5, 4, api.Replace), api.OK)
	wantWalk(t, s, 1, 6, "c", 1, api.OK)
	wantSeen(t, s, 6, 1, "f")
	want(t, "Unbind by a fid that came ahead of the Bind", s.Unbind(2), api.OK)
	wantWalk(t, s, 1, 7, "a", 1, api.OK)
	wantSeen(t, s, 7, 1, "f")
	want(t, "Unbind by a fid that came while more was seen", s.Unbind(5), api.ErrNone)
}

// A directory onto itself: it is in its row by the member that was laid.
func TestP9OntoItself(t *testing.T) {
	for _, c := range []struct {
		how, members int
		made         api.Errno
	}{
		{0, 1, api.ErrDenied},
		{1, 2, api.OK},
		{2, 2, api.OK},
		{4, 1, api.OK},
		{5, 2, api.OK},
		{6, 2, api.OK},
	} {
		s := grown(t, "a/", "a/f", "a/g")
		wantWalk(t, s, 1, 2, "a", 1, api.OK)
		want(t, "Bind of a fid onto itself", s.Bind(2, 2, c.how), api.OK)
		wantSeen(t, s, 2, 1, "f g")
		wantWalk(t, s, 1, 3, "a", 1, api.OK)
		wantSeen(t, s, 3, c.members, "f g")
		want(t, "Create", s.Create(3, "x", false), c.made)
		want(t, "Unbind", s.Unbind(2), api.OK)
		want(t, "Unbind again", s.Unbind(2), api.ErrNone)
		wantWalk(t, s, 1, 4, "a", 1, api.OK)
		want(t, "Create behind Unbind", s.Create(4, "y", false), api.OK)
	}
}

// The root onto what lies in it: the way leads round and round.
func TestP9OntoWhatLiesInIt(t *testing.T) {
	s := grown(t, "a/", "a/b/", "f")
	bind(t, s, "", "a b", api.Replace, api.OK)
	wantWalk(t, s, 1, 2, "a b a b a b f", 7, api.OK)
	wantPath(t, s, 2, "/a/b/a/b/a/b/f")
	wantWalk(t, s, 2, 2, ".. ..", 2, api.OK)
	wantPath(t, s, 2, "/a/b/a/b/a")
	for range 20 {
		wantWalk(t, s, 2, 2, strings.Repeat("b a ", 8), 16, api.OK)
	}
	for range 20 {
		wantWalk(t, s, 2, 2, strings.Repeat(".. ", 16), 16, api.OK)
	}
	wantPath(t, s, 2, "/a/b/a/b/a")
	wantUsed(t, s, 2, 0, api.OK)
	bind(t, s, "a b", "a", api.After, api.OK)
	bind(t, s, "a", "", api.After, api.OK)
	want(t, "Attach(3)", s.Attach(3), api.OK)
	wantSeen(t, s, 3, 2, "a f b")
	wantWalk(t, s, 3, 4, "b b", 1, api.ErrNone)
	wantWalk(t, s, 3, 4, "b a b f", 4, api.OK)
	unbind(t, s, "", api.OK)
	unbind(t, s, "a", api.OK)
	unbind(t, s, "a b", api.OK)
	lose(t, s, "a b")
	lose(t, s, "a")
}

// Onto the root: who attaches from then on sees it, who goes back to it by .. does not.
func TestP9OntoTheRoot(t *testing.T) {
	s := grown(t, "a/", "a/g")
	wantWalk(t, s, 1, 2, "a", 1, api.OK)
	want(t, "Bind", s.Bind(2, 1, api.Before), api.OK)
	wantSeen(t, s, 1, 1, "a")
	want(t, "Attach(3)", s.Attach(3), api.OK)
	wantSeen(t, s, 3, 2, "g a")
	wantWalk(t, s, 2, 4, "..", 1, api.OK)
	wantSeen(t, s, 4, 1, "a")
	want(t, "Unbind", s.Unbind(4), api.OK)
	want(t, "Attach(5)", s.Attach(5), api.OK)
	wantSeen(t, s, 5, 1, "a")
	wantSeen(t, s, 3, 2, "g a")
	want(t, "Unbind again", s.Unbind(3), api.ErrNone)
}

// Bind, Unbind and Used are for open fids too, and open nothing.
func TestP9OpenFids(t *testing.T) {
	s := grown(t, "a/", "a/f", "b/", "b/g")
	opened(t, s, 2, "b")
	opened(t, s, 3, "a")
	want(t, "Bind of open fids", s.Bind(2, 3, api.Before), api.OK)
	wantPath(t, s, 2, "/b open")
	wantPath(t, s, 3, "/a open")
	wantList(t, s, 3, "f", api.OK)
	want(t, "Unbind of an open fid", s.Unbind(3), api.OK)
	wantWalk(t, s, 1, 4, "a", 1, api.OK)
	want(t, "Bind", s.Bind(2, 4, api.Before), api.OK)
	wantPath(t, s, 4, "/a")
}

func TestP9Unbind(t *testing.T) {
	s := grown(t, "a/", "a/f", "b/", "b/g", "c/", "file")
	unbind(t, s, "a", api.ErrNone)
	unbind(t, s, "", api.ErrNone)
	unbind(t, s, "file", api.ErrDir)
	for _, members := range []string{"b", "b c", "a", "a b", "c b a b c b"} {
		lay(t, s, "a", strings.Fields(members))
		unbind(t, s, "b", api.ErrNone)
		unbind(t, s, "a", api.OK)
		unbind(t, s, "a", api.ErrNone)
		wantWalk(t, s, 1, 2, "a", 1, api.OK)
		wantSeen(t, s, 2, 1, "f")
		want(t, "Create", s.Create(2, "x", false), api.OK)
		want(t, "Remove", s.Remove(2), api.OK)
	}
	wantWalk(t, s, 1, 2, "c", 1, api.OK)
	lose(t, s, "c")
	want(t, "Unbind of a gone one", s.Unbind(2), api.ErrGone)
	for _, fid := range numbers {
		if fid != 1 {
			want(t, "Unbind of one that stands nowhere", s.Unbind(fid), api.ErrFid)
		}
	}
}

// With an error beside them rows are as they were, those of the place too.
func TestP9Errors(t *testing.T) {
	s := grown(t, "a/", "a/f", "b/", "c/")
	bind(t, s, "b", "a", api.Before, api.OK)
	wantWalk(t, s, 1, 2, "c", 1, api.OK)
	wantWalk(t, s, 1, 3, "a", 1, api.OK)
	wantWalk(t, s, 1, 4, "a f", 2, api.OK)
	lose(t, s, "c")
	want(t, "from a gone one", s.Bind(2, 3, api.Replace), api.ErrGone)
	want(t, "onto a gone one", s.Bind(3, 2, api.Replace), api.ErrGone)
	want(t, "from a file", s.Bind(4, 3, api.Replace), api.ErrDir)
	want(t, "onto a file", s.Bind(3, 4, api.Replace), api.ErrDir)
	want(t, "from nowhere", s.Bind(9, 3, api.Replace), api.ErrFid)
	want(t, "onto nowhere", s.Bind(3, 9, api.Replace), api.ErrFid)
	wantSeen(t, s, 3, 2, "f")
	wantWalk(t, s, 1, 5, "a", 1, api.OK)
	wantSeen(t, s, 5, 2, "f")
	unbind(t, s, "a", api.OK)
	wantStat(t, s, 4, api.Stat{Name: "f"}, api.OK)
}

// What a row gives is written, made and removed where it lies.
func TestP9EntriesLieInTheirOwn(t *testing.T) {
	s := grown(t, "a/", "b/", "b/d/")
	bind(t, s, "b", "a", api.Before|api.Leave, api.OK)
	wantWalk(t, s, 1, 2, "a d", 2, api.OK)
	want(t, "Create in what a row gives", s.Create(2, "f", false), api.OK)
	wantPath(t, s, 2, "/a/d/f open")
	wantWrite(t, s, 2, 0, "text", api.OK)
	opened(t, s, 3, "b d f")
	wantRead(t, s, 3, 0, 9, "text", api.OK)
	unbind(t, s, "a", api.OK)
	wantRead(t, s, 2, 0, 9, "text", api.OK)
	want(t, "Remove by a way that there is no more", s.Remove(2), api.OK)
	wantWalk(t, s, 1, 4, "b d f", 2, api.ErrNone)
}

// laid is what a row is after a Bind: a letter for each member, a great one if it has leave.
func laid(was, from string, how int) string {
	if how >= 4 {
		from = strings.ToUpper(from)
	}
	switch how % 4 {
	case 1:
		return from + was
	case 2:
		return was + from
	}
	return from
}

// wantRow wants a fid to see a row: each directory has one file of its own name.
func wantRow(t *testing.T, s *Server, fid int, wanted string) {
	t.Helper()
	var names []string
	for _, name := range strings.Split(strings.ToLower(wanted), "") {
		if !slices.Contains(names, name) {
			names = append(names, name)
		}
	}
	wantSeen(t, s, fid, len(wanted), strings.Join(names, " "))
}

// wantMaker wants an entry that is made by a fid to be made in the first member that has leave. Fids 10 on see each directory alone.
func wantMaker(t *testing.T, s *Server, fid int, row string) {
	t.Helper()
	first := strings.IndexAny(row, "ABCD")
	wantWalk(t, s, fid, 3, "", 0, api.OK)
	if first < 0 {
		want(t, "Create in "+row, s.Create(3, "new", true), api.ErrDenied)
		want(t, "Clunk(3)", s.Clunk(3), api.OK)
		return
	}
	want(t, "Create in "+row, s.Create(3, "new", true), api.OK)
	for i, name := range []string{"A", "B", "C", "D"} {
		steps, e := 0, api.ErrNone
		if row[first:first+1] == name {
			steps, e = 1, api.OK
		}
		wantWalk(t, s, 10+i, 4, "new", steps, e)
		s.Clunk(4)
	}
	want(t, "Remove", s.Remove(3), api.OK)
}

// Many Binds and Unbinds: those who come see the row as it is, those who came see the row as it was.
func TestP9ManyBinds(t *testing.T) {
	r := rand.New(rand.NewSource(9))
	dirs := []string{"a", "b", "c", "d"}
	for range 60 {
		s := grown(t, "a/", "a/a", "b/", "b/b", "c/", "c/c", "d/", "d/d")
		rows := map[string]string{"a": "A", "b": "B", "c": "C", "d": "D"}
		kept := map[int]string{}
		bound := map[string]bool{}
		for i, d := range dirs {
			wantWalk(t, s, 1, 10+i, d, 1, api.OK)
			kept[10+i] = rows[d]
		}
		for fid := 14; fid < 44; fid++ {
			from, onto, how := dirs[r.Intn(4)], dirs[r.Intn(2)], []int{0, 1, 1, 2, 2, 4, 5, 5, 6, 6}[r.Intn(10)]
			switch next := laid(rows[onto], from, how); {
			case r.Intn(8) == 0 && !bound[onto]:
				unbind(t, s, onto, api.ErrNone)
			case r.Intn(8) == 0 && bound[onto]:
				unbind(t, s, onto, api.OK)
				rows[onto], bound[onto] = strings.ToUpper(onto), false
			case len(next) > api.MaxRow:
				bind(t, s, from, onto, how, api.ErrMany)
			default:
				bind(t, s, from, onto, how, api.OK)
				rows[onto], bound[onto] = next, true
			}
			wantWalk(t, s, 1, fid, onto, 1, api.OK)
			kept[fid] = rows[onto]
			wantMaker(t, s, fid, rows[onto])
		}
		for fid, row := range kept {
			wantRow(t, s, fid, row)
		}
	}
}
