package warren

import (
	"strconv"
	"sync"
	"testing"

	"warren/api"
)

func TestP1NilServer(t *testing.T) {
	var none *Server
	for _, fid := range numbers {
		want(t, "Attach of a nil Server", none.Attach(fid), api.ErrClosed)
		for name, call := range calls(none, fid) {
			want(t, name+" of a nil Server", call(), api.ErrClosed)
		}
	}
	if n, e := none.Walk(1, 2, "a"); n != 0 || e != api.ErrClosed {
		t.Errorf("Walk of a nil Server: %d, %d", n, e)
	}
	if b, e := none.Read(1, 0, 1); len(b) != 0 || e != api.ErrClosed {
		t.Errorf("Read of a nil Server: %v, %d", b, e)
	}
	if l, e := none.List(1); len(l) != 0 || e != api.ErrClosed {
		t.Errorf("List of a nil Server: %v, %d", l, e)
	}
	if x, e := none.Stat(1); x != (api.Stat{}) || e != api.ErrClosed {
		t.Errorf("Stat of a nil Server: %v, %d", x, e)
	}
	if n := none.Calls(); n != 0 {
		t.Errorf("Calls of a nil Server: %d", n)
	}
}

// Every call at every number, on a Server where little stands and on one where each fid does: none may panic.
func TestP1AllNumbers(t *testing.T) {
	for _, full := range []bool{false, true} {
		s := &Server{}
		for fid := range api.MaxFid + 1 {
			if full {
				s.Attach(fid)
			}
		}
		for _, a := range numbers {
			for _, b := range numbers {
				s.Walk(a, b)
				s.Walk(a, b, wrongNames...)
				s.Walk(a, b, rightNames...)
				s.Read(a, b, b)
				s.Write(a, b, []byte("data"))
				s.Write(a, b, nil)
				s.Bind(a, b, a)
				s.Bind(b, a, b)
			}
			s.Attach(a)
			for _, name := range append(wrongNames, rightNames...) {
				s.Create(a, name, true)
			}
			for _, call := range calls(s, a) {
				call()
			}
		}
	}
}

// Walk: of the errors that apply, the one that P4 names first; the right-hand inputs have all later faults too.
func TestP1OrderOfWalk(t *testing.T) {
	s := grown(t, "a/", "f")
	many := make([]string, api.MaxNames+1)
	want(t, "Attach(2)", s.Attach(2), api.OK)
	want(t, "Attach(3)", s.Attach(3), api.OK)
	want(t, "Open(2)", s.Open(2), api.OK)
	for _, c := range []struct {
		fid, to int
		names   []string
		want    api.Errno
	}{
		{9, 51, many, api.ErrFid},
		{9, 2, many, api.ErrFid},
		{-1, -1, many, api.ErrFid},
		{51, 51, nil, api.ErrFid},
		{2, 51, many, api.ErrOpen},
		{2, 3, many, api.ErrOpen},
		{2, 2, nil, api.ErrOpen},
		{1, 51, many, api.ErrArg},
		{1, -1, []string{""}, api.ErrArg},
		{1, 3, many, api.ErrFid},
		{1, 2, []string{"x"}, api.ErrFid},
		{1, 4, many, api.ErrMany},
		{1, 1, many, api.ErrMany},
		{1, 4, []string{"x", "f", "a/b"}, api.ErrName},
		{1, 4, []string{"f", "x", "y"}, api.ErrDir},
	} {
		n, e := s.Walk(c.fid, c.to, c.names...)
		steps := 0
		if c.want == api.ErrDir {
			steps = 1
		}
		if n != steps || e != c.want {
			t.Errorf("Walk(%d, %d, %q): %d, %d, want %d, %d", c.fid, c.to, c.names, n, e, steps, c.want)
		}
	}
}

// Create: fid by fid fewer faults apply; each answer is the first of those that P5 names.
func TestP1OrderOfCreate(t *testing.T) {
	s := grown(t, "a/", "f", "d/", "g")
	wantWalk(t, s, 1, 2, "f", 1, api.OK)
	wantWalk(t, s, 1, 3, "f", 1, api.OK)
	wantWalk(t, s, 1, 4, "g", 1, api.OK)
	want(t, "Open(2)", s.Open(2), api.OK)
	lose(s, at(t, s, "f"))
	dirAt(t, s, "d").row = row{{dir: dirAt(t, s, "d")}, {dir: s.tree.root}}
	wantWalk(t, s, 1, 5, "d", 1, api.OK)
	for i := s.tree.nodes; i < api.MaxNodes; i++ {
		s.Attach(50)
		want(t, "filling up", s.Create(50, "n"+strconv.Itoa(i), false), api.OK)
		s.Clunk(50)
	}
	want(t, "nowhere", s.Create(9, "", true), api.ErrFid)
	want(t, "open, gone, a file", s.Create(2, "", true), api.ErrOpen)
	want(t, "gone, a file", s.Create(3, "", true), api.ErrGone)
	want(t, "a file", s.Create(4, "", true), api.ErrDir)
	want(t, "no name, no leave, full", s.Create(5, "", true), api.ErrName)
	want(t, "there already, no leave, full", s.Create(5, "a", true), api.ErrExists)
	want(t, "no leave, full", s.Create(5, "x", true), api.ErrDenied)
	want(t, "full", s.Create(1, "x", true), api.ErrMany)
}

// With an error nothing is changed.
func TestP1ErrorsChangeNothing(t *testing.T) {
	s := grown(t, "a/", "a/b/", "f")
	wantWalk(t, s, 1, 2, "a", 1, api.OK)
	wantWalk(t, s, 1, 3, "f", 1, api.OK)
	want(t, "Open(3)", s.Open(3), api.OK)
	before := s.tree.nodes
	s.Attach(2)
	s.Attach(3)
	s.Attach(51)
	s.Walk(2, 2, "b", "x")
	s.Walk(2, 2, "..", "f", "y")
	s.Walk(2, 4, "b", "x")
	s.Walk(2, 3, "b")
	s.Walk(3, 3, "..")
	s.Walk(2, 51, "b")
	s.Open(3)
	s.Create(2, "b", false)
	s.Create(2, "a/b", true)
	s.Create(3, "b", true)
	s.Clunk(4)
	wantPath(t, s, 1, "/")
	wantPath(t, s, 2, "/a")
	wantPath(t, s, 3, "/f open")
	wantPath(t, s, 4, "nowhere")
	if len(s.tree.root.entries) != 2 || len(dirAt(t, s, "a").entries) != 1 || s.tree.nodes != before {
		t.Errorf("entries were made by calls that answered errors: %d nodes", s.tree.nodes)
	}
}

// together runs as many goroutines, lets them begin at once, and counts their answers.
func together(n int, ask func(i int) api.Errno) map[api.Errno]int {
	var done sync.WaitGroup
	start := make(chan bool)
	answers := make([]api.Errno, n)
	for i := range n {
		done.Go(func() {
			<-start
			answers[i] = ask(i)
		})
	}
	close(start)
	done.Wait()
	counts := map[api.Errno]int{}
	for _, e := range answers {
		counts[e]++
	}
	return counts
}

func TestP1Goroutines(t *testing.T) {
	for range 50 {
		s := &Server{}
		if got := together(30, func(int) api.Errno { return s.Attach(50) }); got[api.OK] != 1 || got[api.ErrFid] != 29 {
			t.Fatalf("Attach of one fid: %v", got)
		}
		if got := together(50, func(i int) api.Errno { return s.Attach(i) }); got[api.OK] != 50 {
			t.Fatalf("Attach of many fids: %v", got)
		}
		if got := together(25, func(i int) api.Errno { return s.Create(i, "one", true) }); got[api.OK] != 1 || got[api.ErrExists] != 24 {
			t.Fatalf("Create of one name: %v", got)
		}
		walk := func(i int) api.Errno { _, e := s.Walk(i, i, "one", "..", "one"); return e }
		if got := together(50, walk); got[api.OK] != 49 || got[api.ErrOpen] != 1 {
			t.Fatalf("Walk of many fids: %v", got)
		}
		create := func(i int) api.Errno { return s.Create(i, "n"+strconv.Itoa(i), i%2 == 0) }
		if got := together(50, create); got[api.OK] != 49 || got[api.ErrOpen] != 1 {
			t.Fatalf("Create of many names: %v", got)
		}
		clunk := func(int) api.Errno { s.Calls(); return s.Clunk(7) }
		if got := together(20, clunk); got[api.OK] != 1 || got[api.ErrFid] != 19 {
			t.Fatalf("Clunk of one fid: %v", got)
		}
		if n := s.Calls(); n != 30+50+25+50+50+20 {
			t.Fatalf("Calls: %d", n)
		}
		if s.tree.nodes != 51 {
			t.Fatalf("nodes: %d", s.tree.nodes)
		}
	}
}
