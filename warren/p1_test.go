package warren

import (
	"math"
	"math/rand"
	"slices"
	"strconv"
	"strings"
	"sync"
	"testing"

	"warren/api"
)

func TestP1NilServer(t *testing.T) {
	var none *Server
	for _, fid := range numbers {
		want(t, "Attach of a nil Server", none.Attach(fid), api.ErrClosed)
		for name, call := range calls(none, fid) {
			want(t, name+" of a nil Server", call(), api.ErrClosed)
		}
	}
	if n, e := none.Walk(1, 2, "a"); n != 0 || e != api.ErrClosed {
		t.Errorf("Walk of a nil Server: %d, %d", n, e)
	}
	if b, e := none.Read(1, 0, 1); len(b) != 0 || e != api.ErrClosed {
		t.Errorf("Read of a nil Server: %v, %d", b, e)
	}
	if l, e := none.List(1); len(l) != 0 || e != api.ErrClosed {
		t.Errorf("List of a nil Server: %v, %d", l, e)
	}
	if x, e := none.Stat(1); x != (api.Stat{}) || e != api.ErrClosed {
		t.Errorf("Stat of a nil Server: %v, %d", x, e)
	}
	if n, e := none.Used(1); n != 0 || e != api.ErrClosed {
		t.Errorf("Used of a nil Server: %d, %d", n, e)
	}
	if n, e := none.Write(1, 0, []byte("x")); n != 0 || e != api.ErrClosed {
		t.Errorf("Write of a nil Server: %d, %d", n, e)
	}
	if n := none.Calls(); n != 0 {
		t.Errorf("Calls of a nil Server: %d", n)
	}
}

// Every call at every number, on a Server where little stands and on one where each fid does: none may panic.
func TestP1AllNumbers(t *testing.T) {
	for _, full := range []bool{false, true} {
		s := &Server{}
		for fid := range api.MaxFid + 1 {
			if full {
				s.Attach(fid)
			}
		}
		for _, a := range numbers {
			for _, b := range numbers {
				s.Walk(a, b)
				s.Walk(a, b, wrongNames...)
				s.Walk(a, b, rightNames...)
				s.Read(a, b, b)
				s.Write(a, b, []byte("data"))
				s.Write(a, b, nil)
				for _, how := range append(numbers, 2, 3, 4, 5, 6, 7, 8) {
					s.Bind(a, b, how)
				}
				s.Used(b)
			}
			s.Attach(a)
			for _, name := range append(wrongNames, rightNames...) {
				s.Create(a, name, true)
			}
			for _, call := range calls(s, a) {
				call()
			}
		}
	}
}

// Walk: of the errors that apply, the one that P4 names first; the right-hand inputs have all later faults too.
func TestP1OrderOfWalk(t *testing.T) {
	s := grown(t, "a/", "f")
	many := make([]string, api.MaxNames+1)
	want(t, "Attach(2)", s.Attach(2), api.OK)
	want(t, "Attach(3)", s.Attach(3), api.OK)
	want(t, "Open(2)", s.Open(2), api.OK)
	for _, c := range []struct {
		fid, to int
		names   []string
		want    api.Errno
	}{
		{9, 51, many, api.ErrFid},
		{9, 2, many, api.ErrFid},
		{-1, -1, many, api.ErrFid},
		{51, 51, nil, api.ErrFid},
		{2, 51, many, api.ErrOpen},
		{2, 3, many, api.ErrOpen},
		{2, 2, nil, api.ErrOpen},
		{1, 51, many, api.ErrArg},
		{1, -1, []string{""}, api.ErrArg},
		{1, 3, many, api.ErrFid},
		{1, 2, []string{"x"}, api.ErrFid},
		{1, 4, many, api.ErrMany},
		{1, 1, many, api.ErrMany},
		{1, 4, []string{"x", "f", "a/b"}, api.ErrName},
		{1, 4, []string{"f", "x", "y"}, api.ErrDir},
	} {
		n, e := s.Walk(c.fid, c.to, c.names...)
		steps := 0
		if c.want == api.ErrDir {
			steps = 1
		}
		if n != steps || e != c.want {
			t.Errorf("Walk(%d, %d, %q): %d, %d, want %d, %d", c.fid, c.to, c.names, n, e, steps, c.want)
		}
	}
}

// Create: fid by fid fewer faults apply; each answer is the first of those that P5 names.
func TestP1OrderOfCreate(t *testing.T) {
	s := grown(t, "a/", "f", "d/", "g")
	wantWalk(t, s, 1, 2, "f", 1, api.OK)
	wantWalk(t, s, 1, 3, "f", 1, api.OK)
	wantWalk(t, s, 1, 4, "g", 1, api.OK)
	want(t, "Open(2)", s.Open(2), api.OK)
	lose(t, s, "f")
	bind(t, s, "d", "d", api.Replace, api.OK)
	bind(t, s, "", "d", api.After, api.OK)
	wantWalk(t, s, 1, 5, "d", 1, api.OK)
	for i := s.tree.nodes; i < api.MaxNodes; i++ {
		s.Attach(50)
		want(t, "filling up", s.Create(50, "n"+strconv.Itoa(i), false), api.OK)
		s.Clunk(50)
	}
	want(t, "nowhere", s.Create(9, "", true), api.ErrFid)
	want(t, "open, gone, a file", s.Create(2, "", true), api.ErrOpen)
	want(t, "gone, a file", s.Create(3, "", true), api.ErrGone)
	want(t, "a file", s.Create(4, "", true), api.ErrDir)
	want(t, "no name, no leave, full", s.Create(5, "", true), api.ErrName)
	want(t, "there already, no leave, full", s.Create(5, "a", true), api.ErrExists)
	want(t, "no leave, full", s.Create(5, "x", true), api.ErrDenied)
	want(t, "full", s.Create(1, "x", true), api.ErrMany)
}

// Bind: case by case fewer faults apply, of one fid or of both; each answer is the first of those that P9 names.
func TestP1OrderOfBind(t *testing.T) {
	s := grown(t, "a/", "b/", "f", "g", "h", "d/", "full/")
	for fid, name := range map[int]string{2: "a", 3: "b", 4: "f", 5: "g", 6: "d", 7: "h", 8: "full"} {
		wantWalk(t, s, 1, fid, name, 1, api.OK)
	}
	lose(t, s, "g")
	lose(t, s, "d")
	for range api.MaxRow - 1 {
		bind(t, s, "a", "full", api.After, api.OK)
	}
	for _, c := range []struct {
		from, onto, how int
		want            api.Errno
	}{
		{9, 5, 3, api.ErrFid},
		{5, 9, 3, api.ErrFid},
		{4, 51, 3, api.ErrFid},
		{-1, 4, 3, api.ErrFid},
		{9, 9, 3, api.ErrFid},
		{5, 6, 3, api.ErrGone},
		{4, 5, 3, api.ErrGone},
		{5, 4, 3, api.ErrGone},
		{4, 6, 3, api.ErrGone},
		{6, 4, 3, api.ErrGone},
		{6, 8, 3, api.ErrGone},
		{2, 6, 1, api.ErrGone},
		{6, 6, 1, api.ErrGone},
		{4, 7, 3, api.ErrDir},
		{4, 4, 3, api.ErrDir},
		{4, 8, 3, api.ErrDir},
		{2, 4, 3, api.ErrDir},
		{4, 2, 0, api.ErrDir},
		{2, 8, 3, api.ErrArg},
		{2, 8, 7, api.ErrArg},
		{2, 8, -1, api.ErrArg},
		{2, 8, 1, api.ErrMany},
		{2, 8, 6, api.ErrMany},
		{2, 8, 0, api.OK},
	} {
		before := dump(s)
		if e := s.Bind(c.from, c.onto, c.how); e != c.want {
			t.Errorf("Bind(%d, %d, %d): %d, want %d", c.from, c.onto, c.how, e, c.want)
		}
		if c.want != api.OK && !slices.Equal(dump(s), before) {
			t.Errorf("Bind(%d, %d, %d): the Server is not as it was", c.from, c.onto, c.how)
		}
	}
	for fid, wanted := range map[int]api.Errno{9: api.ErrFid, 5: api.ErrGone, 6: api.ErrGone, 4: api.ErrDir, 2: api.ErrNone, 8: api.OK} {
		want(t, "Unbind of fid "+strconv.Itoa(fid), s.Unbind(fid), wanted)
	}
}

// With an error nothing is changed.
func TestP1ErrorsChangeNothing(t *testing.T) {
	s := grown(t, "a/", "a/b/", "f")
	wantWalk(t, s, 1, 2, "a", 1, api.OK)
	wantWalk(t, s, 1, 3, "f", 1, api.OK)
	want(t, "Open(3)", s.Open(3), api.OK)
	before := s.tree.nodes
	s.Attach(2)
	s.Attach(3)
	s.Attach(51)
	s.Walk(2, 2, "b", "x")
	s.Walk(2, 2, "..", "f", "y")
	s.Walk(2, 4, "b", "x")
	s.Walk(2, 3, "b")
	s.Walk(3, 3, "..")
	s.Walk(2, 51, "b")
	s.Open(3)
	s.Create(2, "b", false)
	s.Create(2, "a/b", true)
	s.Create(3, "b", true)
	s.Clunk(4)
	s.Write(2, 0, []byte("x"))
	s.Write(3, 300, []byte("x"))
	s.Write(3, -1, nil)
	s.Read(3, -1, 0)
	s.List(3)
	s.Stat(4)
	s.Remove(4)
	s.Bind(2, 3, 0)
	s.Bind(3, 2, 0)
	s.Bind(1, 2, 3)
	s.Bind(1, 4, 0)
	s.Unbind(2)
	s.Used(4)
	wantSeen(t, s, 2, 1, "b")
	wantPath(t, s, 1, "/")
	wantPath(t, s, 2, "/a")
	wantPath(t, s, 3, "/f open")
	wantPath(t, s, 4, "nowhere")
	if len(s.tree.root.entries) != 2 || len(dirAt(t, s, "a").entries) != 1 || s.tree.nodes != before {
		t.Errorf("entries were made by calls that answered errors: %d nodes", s.tree.nodes)
	}
}

// answer is what a call answered.
type answer struct {
	e     api.Errno
	empty bool // all other results are 0 or empty
	call  string
}

// ask makes a call that r chooses, of a few fids and names, so that many go well and many don't.
func ask(s *Server, r *rand.Rand) (answer, int) {
	pick := func(from ...int) int { return from[r.Intn(len(from))] }
	name := func() string { return []string{"a", "b", "c", "..", ".", "a/b"}[r.Intn(6)] }
	fid := r.Intn(8)
	at, n := pick(-1, 0, 1, 5, 290, 300, 301, math.MaxInt), pick(-1, 0, 1, 10, 300, math.MaxInt)
	switch r.Intn(14) {
	case 10, 11:
		return answer{s.Bind(fid, r.Intn(8), r.Intn(9)-1), true, "Bind"}, fid
	case 12:
		return answer{s.Unbind(fid), true, "Unbind"}, fid
	case 13:
		n, e := s.Used(fid)
		return answer{e, n == 0, "Used"}, fid
	case 0:
		return answer{s.Attach(fid), true, "Attach"}, fid
	case 1:
		_, e := s.Walk(fid, r.Intn(8), name(), name())
		return answer{e, true, "Walk"}, fid
	case 2:
		return answer{s.Open(fid), true, "Open"}, fid
	case 3, 4:
		return answer{s.Create(fid, name(), r.Intn(3) > 0), true, "Create"}, fid
	case 5:
		b, e := s.Read(fid, at, n)
		return answer{e, len(b) == 0, "Read"}, fid
	case 6:
		n, e := s.Write(fid, at, make([]byte, pick(0, 1, 10, 301)))
		return answer{e, n == 0, "Write"}, fid
	case 7:
		l, e := s.List(fid)
		return answer{e, len(l) == 0, "List"}, fid
	case 8:
		x, e := s.Stat(fid)
		return answer{e, x == (api.Stat{}), "Stat"}, fid
	}
	if r.Intn(3) > 0 {
		return answer{s.Clunk(fid), true, "Clunk"}, fid
	}
	return answer{s.Remove(fid), true, "Remove"}, fid
}

// Many calls in a row: beside an error all else is 0 or empty, and the Server is as it was, but for Remove's fid.
func TestP1ErrorsOfManyCalls(t *testing.T) {
	nowhere := dump(grown(t))[0]
	seen := map[string]int{}
	for seed := range int64(30) {
		s, r := &Server{}, rand.New(rand.NewSource(seed))
		s.Attach(0)
		for range 400 {
			wanted := dump(s)
			got, fid := ask(s, r)
			seen[got.call+strconv.Itoa(int(got.e))]++
			if got.e == api.OK {
				continue
			}
			if got.call == "Remove" {
				wanted[fid] = nowhere
			}
			if !got.empty {
				t.Fatalf("%s: error %d beside another result", got.call, got.e)
			}
			if !slices.Equal(dump(s), wanted) {
				t.Fatalf("%s: error %d: the Server is not as it was", got.call, got.e)
			}
		}
	}
	if len(seen) < 40 {
		t.Errorf("too few of the answers came up: %v", seen)
	}
}

// together runs as many goroutines, lets them begin at once, and counts their answers.
func together(n int, ask func(i int) api.Errno) map[api.Errno]int {
	var done sync.WaitGroup
	start := make(chan bool)
	answers := make([]api.Errno, n)
	for i := range n {
		done.Go(func() {
			<-start
			answers[i] = ask(i)
		})
	}
	close(start)
	done.Wait()
	counts := map[api.Errno]int{}
	for _, e := range answers {
		counts[e]++
	}
	return counts
}

func TestP1Goroutines(t *testing.T) {
	for range 50 {
		s := &Server{}
		if got := together(30, func(int) api.Errno { return s.Attach(50) }); got[api.OK] != 1 || got[api.ErrFid] != 29 {
			t.Fatalf("Attach of one fid: %v", got)
		}
		if got := together(50, func(i int) api.Errno { return s.Attach(i) }); got[api.OK] != 50 {
			t.Fatalf("Attach of many fids: %v", got)
		}
		if got := together(25, func(i int) api.Errno { return s.Create(i, "one", true) }); got[api.OK] != 1 || got[api.ErrExists] != 24 {
			t.Fatalf("Create of one name: %v", got)
		}
		walk := func(i int) api.Errno { _, e := s.Walk(i, i, "one", "..", "one"); return e }
		if got := together(50, walk); got[api.OK] != 49 || got[api.ErrOpen] != 1 {
			t.Fatalf("Walk of many fids: %v", got)
		}
		create := func(i int) api.Errno { return s.Create(i, "n"+strconv.Itoa(i), i%2 == 0) }
		if got := together(50, create); got[api.OK] != 49 || got[api.ErrOpen] != 1 {
			t.Fatalf("Create of many names: %v", got)
		}
		clunk := func(int) api.Errno { s.Calls(); return s.Clunk(7) }
		if got := together(20, clunk); got[api.OK] != 1 || got[api.ErrFid] != 19 {
			t.Fatalf("Clunk of one fid: %v", got)
		}
		if n := s.Calls(); n != 30+50+25+50+50+20 {
			t.Fatalf("Calls: %d", n)
		}
		if s.tree.nodes != 51 {
			t.Fatalf("nodes: %d", s.tree.nodes)
		}
	}
}

// Files that are written, read, listed and removed by many at a time.
func TestP1GoroutinesOfFiles(t *testing.T) {
	for range 20 {
		s := grown(t, "f", "d/")
		for fid := 2; fid < 42; fid++ {
			opened(t, s, fid, "f")
		}
		opened(t, s, 0, "")
		write := func(i int) api.Errno {
			_, e := s.Write(i+2, 3*(i%10), []byte("abc"))
			return e
		}
		if got := together(40, write); got[api.OK] != 40 {
			t.Fatalf("Write: %v", got)
		}
		wantStat(t, s, 2, api.Stat{Name: "f", Size: 30, Version: 40}, api.OK)
		wantRead(t, s, 3, 0, 99, strings.Repeat("abc", 10), api.OK)
		mixed := func(i int) api.Errno {
			s.List(0)
			s.Stat(i + 2)
			if b, e := s.Read(i+2, 0, 3); e == api.OK && string(b) != "abc" && string(b) != "xyz" {
				return api.ErrArg
			}
			if i%2 == 0 {
				_, e := s.Write(i+2, 0, []byte("xyz"))
				return e
			}
			return api.OK
		}
		if got := together(40, mixed); got[api.OK] != 40 {
			t.Fatalf("Read, Write, List and Stat: %v", got)
		}
		if got := together(40, func(i int) api.Errno { return s.Remove(i + 2) }); got[api.OK] != 1 || got[api.ErrGone] != 39 {
			t.Fatalf("Remove: %v", got)
		}
		wantList(t, s, 0, "d", api.OK)
	}
}

// Rows that are laid, seen and taken away by many at a time.
func TestP1GoroutinesOfRows(t *testing.T) {
	for range 20 {
		s := grown(t, "a/", "a/f", "b/", "b/g", "b/h/", "b/h/i")
		fill(t, s, "a f", "1234")
		fill(t, s, "b g", "12345")
		fill(t, s, "b h i", "1234567890")
		for fid := 2; fid < 42; fid++ {
			wantWalk(t, s, 1, fid, []string{"a", "b"}[fid%2], 1, api.OK)
		}
		if got := together(20, func(i int) api.Errno { return s.Bind(3, 2*i+2, i%2+1) }); got[api.OK] != 5 || got[api.ErrMany] != 15 {
			t.Fatalf("Bind: %v", got)
		}
		used := func(i int) api.Errno {
			if i%4 == 0 {
				return s.Bind(3, 2, api.Replace)
			}
			if i%4 == 1 {
				s.Walk(1, 42+i%3, "a")
				s.Clunk(42 + i%3)
			}
			n, e := s.Used(i + 2)
			if n != []int{4, 15}[i%2] {
				return api.ErrArg
			}
			return e
		}
		if got := together(40, used); got[api.OK] != 40 {
			t.Fatalf("Used and Bind: %v", got)
		}
		if got := together(40, func(i int) api.Errno { return s.Unbind(2*(i%20) + 2) }); got[api.OK] != 1 || got[api.ErrNone] != 39 {
			t.Fatalf("Unbind: %v", got)
		}
	}
}

// Used while others write, make and remove: what it tells is what lay there at one time.
func TestP1GoroutinesOfUsed(t *testing.T) {
	for range 20 {
		s := grown(t, "d/", "d/e/", "d/e/f")
		for fid := 2; fid < 22; fid++ {
			opened(t, s, fid, "d e f")
		}
		mixed := func(i int) api.Errno {
			if i < 20 {
				_, e := s.Write(i+2, 10*i, make([]byte, 10))
				return e
			}
			s.Walk(1, i+2, "d")
			if i < 30 {
				s.Create(i+2, "n"+strconv.Itoa(i), false)
				s.Write(i+2, 0, make([]byte, 10))
				return s.Remove(i + 2)
			}
			if n, e := s.Used(i + 2); n%10 != 0 || e != api.OK {
				return api.ErrArg
			}
			return api.OK
		}
		if got := together(40, mixed); got[api.OK] != 40 {
			t.Fatalf("Used, Write, Create and Remove: %v", got)
		}
		wantUsed(t, s, 1, 200, api.OK)
	}
}
