package warren

import (
	"fmt"
	"maps"
	"math"
	"slices"
	"strings"
	"testing"

	"warren/api"
)

// numbers: fids in and out of bounds, and what is farthest out.
var numbers = []int{math.MinInt, -51, -1, 0, 1, 49, 50, 51, 1 << 32, math.MaxInt}

// wrongNames are neither a NAME nor a step of a walk.
var wrongNames = []string{"", "/", "a/b", "/a", "a/", "a b", " ", "\x00", "\x20", "\x7f", "\x80", "é", "\xff", "a\n", strings.Repeat("n", 13), strings.Repeat("n", 1<<20)}

// rightNames are NAMES, those at the edges among them.
var rightNames = []string{"!", "~", "a", "...", ".a", "a.", "..a", "0", "-", "\\", strings.Repeat("n", 12), "............"}

func want(t *testing.T, what string, got, wanted api.Errno) {
	t.Helper()
	if got != wanted {
		t.Errorf("%s: %d, want %d", what, got, wanted)
	}
}

func wantWalk(t *testing.T, s *Server, fid, to int, names string, steps int, wanted api.Errno) {
	t.Helper()
	if n, e := s.Walk(fid, to, strings.Fields(names)...); n != steps || e != wanted {
		t.Errorf("Walk(%d, %d, %s): %d, %d, want %d, %d", fid, to, names, n, e, steps, wanted)
	}
}

// path tells where a fid stands, by the names of the places through which it came, and whether it is open.
func path(s *Server, fid int) string {
	held := s.standing(fid)
	if held == nil {
		return "nowhere"
	}
	out := ""
	for p := held.at; p.from != p; p = p.from {
		out = "/" + p.node.called() + out
	}
	if out == "" {
		out = "/"
	}
	if held.open {
		out += " open"
	}
	return out
}

func wantPath(t *testing.T, s *Server, fid int, wanted string) {
	t.Helper()
	if got := path(s, fid); got != wanted {
		t.Errorf("fid %d stands at %s, want %s", fid, got, wanted)
	}
}

// grown is a Server with fid 1 at the root, and the files and directories of these paths (of directories with / behind).
func grown(t *testing.T, paths ...string) *Server {
	t.Helper()
	s := &Server{}
	want(t, "Attach(1)", s.Attach(1), api.OK)
	for _, p := range paths {
		names := strings.Split(strings.TrimSuffix(p, "/"), "/")
		last := len(names) - 1
		if _, e := s.Walk(1, 50, names[:last]...); e != api.OK {
			t.Fatalf("the way to %s: %d", p, e)
		}
		want(t, "Create "+p, s.Create(50, names[last], strings.HasSuffix(p, "/")), api.OK)
		want(t, "Clunk(50)", s.Clunk(50), api.OK)
	}
	return s
}

// at gives the node to which names lead from the root.
func at(t *testing.T, s *Server, names string) node {
	t.Helper()
	p, _, e := come(s.tree.root, nil).walk(strings.Fields(names))
	if e != api.OK {
		t.Fatalf("the way to %s: %d", names, e)
	}
	return p.node
}

func dirAt(t *testing.T, s *Server, names string) *directory {
	t.Helper()
	d, ok := at(t, s, names).(*directory)
	if !ok {
		t.Fatalf("%s is no directory", names)
	}
	return d
}

// lose removes the node to which names lead from fid 1, by way of fid 50.
func lose(t *testing.T, s *Server, names string) {
	t.Helper()
	wantWalk(t, s, 1, 50, names, len(strings.Fields(names)), api.OK)
	want(t, "Remove of "+names, s.Remove(50), api.OK)
}

func wantRead(t *testing.T, s *Server, fid, at, n int, wanted string, e api.Errno) {
	t.Helper()
	if b, got := s.Read(fid, at, n); string(b) != wanted || got != e {
		t.Errorf("Read(%d, %d, %d): %q, %d, want %q, %d", fid, at, n, b, got, wanted, e)
	}
}

func wantWrite(t *testing.T, s *Server, fid, at int, data string, e api.Errno) {
	t.Helper()
	n := 0
	if e == api.OK {
		n = len(data)
	}
	if got, err := s.Write(fid, at, []byte(data)); got != n || err != e {
		t.Errorf("Write(%d, %d, %.20q): %d, %d, want %d, %d", fid, at, data, got, err, n, e)
	}
}

func wantList(t *testing.T, s *Server, fid int, names string, e api.Errno) {
	t.Helper()
	if l, got := s.List(fid); !slices.Equal(l, strings.Fields(names)) || got != e {
		t.Errorf("List(%d): %q, %d, want %s, %d", fid, l, got, names, e)
	}
}

func wantStat(t *testing.T, s *Server, fid int, wanted api.Stat, e api.Errno) {
	t.Helper()
	if x, got := s.Stat(fid); x != wanted || got != e {
		t.Errorf("Stat(%d): %+v, %d, want %+v, %d", fid, x, got, wanted, e)
	}
}

// opened lets a fid stand where names lead from fid 1, and opens it.
func opened(t *testing.T, s *Server, fid int, names string) {
	t.Helper()
	wantWalk(t, s, 1, fid, names, len(strings.Fields(names)), api.OK)
	want(t, "Open at "+names, s.Open(fid), api.OK)
}

// bind lays one directory onto another, by the names that lead to them from fid 1, by way of fids 48 and 49.
func bind(t *testing.T, s *Server, from, onto string, how int, wanted api.Errno) {
	t.Helper()
	wantWalk(t, s, 1, 48, from, len(strings.Fields(from)), api.OK)
	wantWalk(t, s, 1, 49, onto, len(strings.Fields(onto)), api.OK)
	want(t, fmt.Sprintf("Bind of %q onto %q, how %d", from, onto, how), s.Bind(48, 49, how), wanted)
	want(t, "Clunk(48)", s.Clunk(48), api.OK)
	want(t, "Clunk(49)", s.Clunk(49), api.OK)
}

func unbind(t *testing.T, s *Server, onto string, wanted api.Errno) {
	t.Helper()
	wantWalk(t, s, 1, 49, onto, len(strings.Fields(onto)), api.OK)
	want(t, "Unbind of "+onto, s.Unbind(49), wanted)
	want(t, "Clunk(49)", s.Clunk(49), api.OK)
}

// fill writes a text into the file to which names lead from fid 1, by way of fid 50.
func fill(t *testing.T, s *Server, names, text string) {
	t.Helper()
	opened(t, s, 50, names)
	wantWrite(t, s, 50, 0, text, api.OK)
	want(t, "Clunk(50)", s.Clunk(50), api.OK)
}

// wantSeen wants what a fid, which is not open, sees of the directory at which it stands: how many members, and what their entries are.
func wantSeen(t *testing.T, s *Server, fid, members int, names string) {
	t.Helper()
	if x, e := s.Stat(fid); x.Row != members || e != api.OK {
		t.Errorf("Stat(%d): row %d, error %d, want %d members", fid, x.Row, e, members)
	}
	wantWalk(t, s, fid, 50, "", 0, api.OK)
	want(t, "Open(50)", s.Open(50), api.OK)
	wantList(t, s, 50, names, api.OK)
	want(t, "Clunk(50)", s.Clunk(50), api.OK)
}

func wantUsed(t *testing.T, s *Server, fid, wanted int, e api.Errno) {
	t.Helper()
	if n, got := s.Used(fid); n != wanted || got != e {
		t.Errorf("Used(%d): %d, %d, want %d, %d", fid, n, got, wanted, e)
	}
}

// calls: each call that answers an error, by its name, asked of that fid with arguments that are wrong as far as may be.
func calls(s *Server, fid int) map[string]func() api.Errno {
	return map[string]func() api.Errno{
		"Walk":   func() api.Errno { _, e := s.Walk(fid, 51, make([]string, 17)...); return e },
		"Open":   func() api.Errno { return s.Open(fid) },
		"Create": func() api.Errno { return s.Create(fid, "", true) },
		"Read":   func() api.Errno { _, e := s.Read(fid, -1, -1); return e },
		"Write":  func() api.Errno { _, e := s.Write(fid, -1, make([]byte, 301)); return e },
		"List":   func() api.Errno { _, e := s.List(fid); return e },
		"Stat":   func() api.Errno { _, e := s.Stat(fid); return e },
		"Remove": func() api.Errno { return s.Remove(fid) },
		"Clunk":  func() api.Errno { return s.Clunk(fid) },
		"Bind":   func() api.Errno { return s.Bind(fid, fid, 3) },
		"Unbind": func() api.Errno { return s.Unbind(fid) },
		"Used":   func() api.Errno { _, e := s.Used(fid); return e },
	}
}

// dump tells all that a Server holds but the count of its calls: for each fid in turn what it holds, then the tree.
func dump(s *Server) []string {
	var out []string
	for fid := range s.fids {
		line := fmt.Sprintf("%s %p", path(s, fid), s.fids[fid].at)
		if at := s.fids[fid].at; at != nil {
			line += fmt.Sprintf(" %p gone %v row %v", at.node, at.node.isGone(), at.row)
		}
		out = append(out, line)
	}
	tree := &strings.Builder{}
	fmt.Fprintf(tree, "%d nodes", s.tree.nodes)
	dumpNode(tree, s.tree.root)
	return append(out, tree.String())
}

func dumpNode(out *strings.Builder, n node) {
	fmt.Fprintf(out, "\n%p %s gone %v in %p", n, n.called(), n.isGone(), n.liesIn())
	switch x := n.(type) {
	case *file:
		fmt.Fprintf(out, " %q version %d", x.bytes, x.version)
	case *directory:
		fmt.Fprintf(out, " bound %v", x.bound)
		for _, name := range slices.Sorted(maps.Keys(x.entries)) {
			fmt.Fprintf(out, "\n%q:", name)
			dumpNode(out, x.entries[name])
		}
	}
}
