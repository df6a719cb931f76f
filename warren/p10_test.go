package warren

import (
	"runtime"
	"slices"
	"strconv"
	"strings"
	"testing"
	"time"

	"warren/api"
)

func TestP10Used(t *testing.T) {
	s := grown(t, "a/", "a/f", "a/g", "a/b/", "a/b/c/", "a/b/c/h", "e/", "i")
	fill(t, s, "a f", "12")
	fill(t, s, "a b c h", "12345")
	fill(t, s, "i", strings.Repeat("x", api.MaxFile))
	for names, used := range map[string]int{"": 307, "a": 7, "a f": 2, "a g": 0, "a b": 5, "a b c": 5, "a b c h": 5, "e": 0, "i": 300, "a b c ..": 5} {
		wantWalk(t, s, 1, 2, names, len(strings.Fields(names)), api.OK)
		wantUsed(t, s, 2, used, api.OK)
		want(t, "Open(2)", s.Open(2), api.OK)
		wantUsed(t, s, 2, used, api.OK)
		want(t, "Clunk(2)", s.Clunk(2), api.OK)
	}
	opened(t, s, 3, "a f")
	wantWrite(t, s, 3, 9, "x", api.OK)
	wantUsed(t, s, 3, 10, api.OK)
	wantUsed(t, s, 1, 315, api.OK)
	wantWrite(t, s, 3, 0, "abc", api.OK)
	wantWrite(t, s, 3, 200, "", api.OK)
	wantUsed(t, s, 1, 315, api.OK)
	lose(t, s, "i")
	wantUsed(t, s, 1, 15, api.OK)
	lose(t, s, "a f")
	lose(t, s, "a b c h")
	wantUsed(t, s, 1, 0, api.OK)
	wantUsed(t, grown(t), 1, 0, api.OK)
}

// As deep and as broad as a tree can be.
func TestP10UsedOfMany(t *testing.T) {
	deep, broad := grown(t), grown(t)
	want(t, "Attach(2)", deep.Attach(2), api.OK)
	for i := range api.MaxNodes - 1 {
		want(t, "Create", deep.Create(2, "d", i < api.MaxNodes-2), api.OK)
		if i < api.MaxNodes-2 {
			want(t, "Clunk(2)", deep.Clunk(2), api.OK)
			wantWalk(t, deep, 1, 1, "d", 1, api.OK)
			wantWalk(t, deep, 1, 2, "", 0, api.OK)
		}
		want(t, "Attach(3)", broad.Attach(3), api.OK)
		want(t, "Create", broad.Create(3, "n"+strconv.Itoa(i), false), api.OK)
		wantWrite(t, broad, 3, api.MaxFile-1, "x", api.OK)
		want(t, "Clunk(3)", broad.Clunk(3), api.OK)
		wantUsed(t, broad, 1, (i+1)*api.MaxFile, api.OK)
	}
	wantWrite(t, deep, 2, 0, "seven b", api.OK)
	for range api.MaxNodes {
		wantUsed(t, deep, 1, 7, api.OK)
		wantWalk(t, deep, 1, 1, "..", 1, api.OK)
	}
	wantStat(t, deep, 1, api.Stat{Name: "/", Dir: true, Row: 1}, api.OK)
}

// Of a row each member is counted, each time, by its own entries; of what lies in it rows don't count.
func TestP10UsedOfRows(t *testing.T) {
	for _, c := range []struct {
		onto, row string
		used      int
	}{
		{"a", "a", 3},
		{"a", "b", 70},
		{"a", "b a", 73},
		{"a", "a b", 73},
		{"a", "b b", 140},
		{"a", "b a b b a", 216},
		{"a", "e", 0},
		{"a", "e a", 3},
		{"a", "c", 50},
		{"a", "b c", 120},
		{"a", "c b c a", 173},
		{"a", "root", 73},
		{"a", "root a root b", 219},
		{"a", "root root root root root root", 438},
		{"b", "a", 3},
		{"b", "b c", 120},
		{"c", "b", 70},
		{"c", "root c", 123},
		{"root", "a", 3},
		{"root", "root b c", 193},
	} {
		s := grown(t, "a/", "a/f", "b/", "b/g", "b/c/", "b/c/h", "e/")
		fill(t, s, "a f", "123")
		fill(t, s, "b g", strings.Repeat("g", 20))
		fill(t, s, "b c h", strings.Repeat("h", 50))
		names := map[string]string{"a": "a", "b": "b", "c": "b c", "e": "e", "root": ""}
		alone := map[string]int{"a": 3, "b": 70, "c": 50, "e": 0, "root": 73}
		old, fids := map[int]string{}, 10
		for name, way := range names {
			fids++
			wantWalk(t, s, 1, fids, way, len(strings.Fields(way)), api.OK)
			old[fids] = name
		}
		var members []string
		for _, m := range strings.Fields(c.row) {
			members = append(members, names[m])
		}
		lay(t, s, names[c.onto], members)
		want(t, "Attach(2)", s.Attach(2), api.OK)
		if c.onto != "root" {
			wantWalk(t, s, 2, 2, names[c.onto], len(strings.Fields(names[c.onto])), api.OK)
			want(t, "Attach(3)", s.Attach(3), api.OK)
			wantUsed(t, s, 3, 73, api.OK)
		}
		wantUsed(t, s, 2, c.used, api.OK)
		for fid, name := range old {
			wantUsed(t, s, fid, alone[name], api.OK)
		}
		unbind(t, s, names[c.onto], api.OK)
		wantUsed(t, s, 2, c.used, api.OK)
	}
}

// A member that has something laid onto it counts by what lies in it alone.
func TestP10UsedOfMembersWithRows(t *testing.T) {
	s := grown(t, "a/", "a/f", "b/", "b/g", "b/d/", "c/", "c/h")
	fill(t, s, "a f", "1")
	fill(t, s, "b g", "10 bytes..")
	fill(t, s, "c h", strings.Repeat("h", 100))
	bind(t, s, "c", "b", api.Before, api.OK)
	bind(t, s, "c", "b d", api.Replace, api.OK)
	bind(t, s, "b", "a", api.After, api.OK)
	wantWalk(t, s, 1, 2, "a", 1, api.OK)
	wantUsed(t, s, 2, 11, api.OK)
	wantWalk(t, s, 1, 3, "b", 1, api.OK)
	wantUsed(t, s, 3, 110, api.OK)
	wantWalk(t, s, 1, 4, "b d", 2, api.OK)
	wantUsed(t, s, 4, 100, api.OK)
	wantUsed(t, s, 1, 111, api.OK)
}

// Members that are gone are passed over; a node that is gone itself is an error, whatever is still seen there.
func TestP10UsedOfWhatIsGone(t *testing.T) {
	s := grown(t, "a/", "a/f", "b/", "b/g", "c/", "c/h")
	for _, names := range []string{"a f", "b g", "c h"} {
		fill(t, s, names, "1234")
	}
	lay(t, s, "a", []string{"b", "a", "c"})
	wantWalk(t, s, 1, 2, "a", 1, api.OK)
	opened(t, s, 3, "a")
	opened(t, s, 4, "a f")
	unbind(t, s, "a", api.OK)
	wantUsed(t, s, 2, 12, api.OK)
	lose(t, s, "b g")
	lose(t, s, "b")
	wantUsed(t, s, 2, 8, api.OK)
	lose(t, s, "a f")
	wantUsed(t, s, 4, 0, api.ErrGone)
	wantUsed(t, s, 2, 4, api.OK)
	lose(t, s, "a")
	wantUsed(t, s, 2, 0, api.ErrGone)
	wantUsed(t, s, 3, 0, api.ErrGone)
	wantUsed(t, s, 1, 4, api.OK)
	for _, fid := range numbers {
		if fid != 1 {
			wantUsed(t, s, fid, 0, api.ErrFid)
		}
	}
}

func TestP10UsedChangesNothing(t *testing.T) {
	s := grown(t, "a/", "a/f", "b/")
	fill(t, s, "a f", "1234")
	lay(t, s, "b", []string{"a", "b", ""})
	wantWalk(t, s, 1, 2, "b", 1, api.OK)
	before := dump(s)
	wantUsed(t, s, 1, 4, api.OK)
	wantUsed(t, s, 2, 8, api.OK)
	if !slices.Equal(dump(s), before) {
		t.Errorf("the Server is not as it was")
	}
}

// No goroutine goes on once Used has answered. (The runtime may still be putting the last of them away: it is given a while.)
func TestP10GoroutinesEnd(t *testing.T) {
	s := grown(t, "a/", "a/b/", "a/b/f", "a/g", "a/h", "c/", "c/i")
	lay(t, s, "c", []string{"a", "", "c", "a b"})
	wantWalk(t, s, 1, 2, "c", 1, api.OK)
	before := runtime.NumGoroutine()
	for range 100 {
		wantUsed(t, s, 2, 0, api.OK)
	}
	for range 1000 {
		if runtime.NumGoroutine() <= before {
			return
		}
		time.Sleep(time.Millisecond)
	}
	t.Errorf("%d goroutines, %d before", runtime.NumGoroutine(), before)
}

// Each call is counted once, with an error or without; Calls itself is not.
func TestP10Calls(t *testing.T) {
	s := &Server{}
	if n := s.Calls(); n != 0 {
		t.Errorf("Calls at first: %d", n)
	}
	s.Attach(1)
	s.Attach(1)
	s.Attach(51)
	if n := s.Calls(); n != 3 || s.Calls() != 3 {
		t.Errorf("Calls: %d, then %d, want 3", n, s.Calls())
	}
	for _, fid := range []int{1, 9, -1} {
		for name, call := range calls(s, fid) {
			before := s.Calls()
			call()
			if n := s.Calls(); n != before+1 {
				t.Errorf("%s of fid %d: counted %d times", name, fid, n-before)
			}
		}
	}
}
