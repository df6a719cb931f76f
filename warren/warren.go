// Package warren: a tree of files that is walked by numbers, in which directories lie over one another: see DOC.md.
package warren

import (
	"sync"
	"sync/atomic"

	"warren/api"
)

// Server is a tree of files, and the fids that stand in it.
type Server struct {
	made  sync.Once
	lock  sync.Mutex
	calls atomic.Int64
	tree  *tree
	fids  [api.MaxFid + 1]stand
}

// Attach lets a fid stand at the root (P3).
func (s *Server) Attach(fid int) api.Errno {
	if s == nil {
		return api.ErrClosed
	}
	s.enter()
	defer s.leave()
	if !isFid(fid) {
		return api.ErrArg
	}
	if s.standing(fid) != nil {
		return api.ErrFid
	}
	s.fids[fid] = stand{at: come(s.tree.root, nil)}
	return api.OK
}

// Walk lets a fid stand where names lead (P4).
func (s *Server) Walk(fid int, to int, names ...string) (int, api.Errno) {
	if s == nil {
		return 0, api.ErrClosed
	}
	s.enter()
	defer s.leave()
	if e := s.checkWalk(fid, to, names); e != api.OK {
		return 0, e
	}
	end, steps, e := s.fids[fid].at.walk(names)
	if e != api.OK {
		return steps, e
	}
	s.fids[to] = stand{at: end}
	return steps, api.OK
}

// Open opens a fid (P5).
func (s *Server) Open(fid int) api.Errno {
	if s == nil {
		return api.ErrClosed
	}
	s.enter()
	defer s.leave()
	held := s.standing(fid)
	switch {
	case held == nil:
		return api.ErrFid
	case held.open:
		return api.ErrOpen
	case held.at.node.isGone():
		return api.ErrGone
	}
	held.open = true
	return api.OK
}

// Create makes an entry (P5).
func (s *Server) Create(fid int, name string, dir bool) api.Errno {
	if s == nil {
		return api.ErrClosed
	}
	s.enter()
	defer s.leave()
	held := s.standing(fid)
	if held == nil {
		return api.ErrFid
	}
	if held.open {
		return api.ErrOpen
	}
	made, e := s.tree.create(held.at, name, dir)
	if e != api.OK {
		return e
	}
	*held = stand{at: made, open: true}
	return api.OK
}

// Read tells a file's bytes (P6).
func (s *Server) Read(fid int, at int, n int) ([]byte, api.Errno) {
	if s == nil {
		return nil, api.ErrClosed
	}
	s.enter()
	defer s.leave()
	f, e := s.openedFile(fid)
	if e != api.OK {
		return nil, e
	}
	if at < 0 || n < 0 {
		return nil, api.ErrArg
	}
	return f.read(at, n), api.OK
}

// Write writes a file's bytes (P6).
func (s *Server) Write(fid int, at int, data []byte) (int, api.Errno) {
	if s == nil {
		return 0, api.ErrClosed
	}
	s.enter()
	defer s.leave()
	f, e := s.openedFile(fid)
	if e != api.OK {
		return 0, e
	}
	if at < 0 {
		return 0, api.ErrArg
	}
	if e := f.write(at, data); e != api.OK {
		return 0, e
	}
	return len(data), api.OK
}

// List tells a directory's entries (P7).
func (s *Server) List(fid int) ([]string, api.Errno) {
	if s == nil {
		return nil, api.ErrClosed
	}
	s.enter()
	defer s.leave()
	at, e := s.opened(fid)
	if e != api.OK {
		return nil, e
	}
	if e := at.checkDirectory(); e != api.OK {
		return nil, e
	}
	return at.row.list(), api.OK
}

// Stat tells what a node is (P7).
func (s *Server) Stat(fid int) (api.Stat, api.Errno) {
	if s == nil {
		return api.Stat{}, api.ErrClosed
	}
	s.enter()
	defer s.leave()
	held := s.standing(fid)
	switch {
	case held == nil:
		return api.Stat{}, api.ErrFid
	case held.at.node.isGone():
		return api.Stat{}, api.ErrGone
	}
	return held.at.stat(), api.OK
}

// Remove takes a node away, and gives its fid up (P8).
func (s *Server) Remove(fid int) api.Errno {
	if s == nil {
		return api.ErrClosed
	}
	s.enter()
	defer s.leave()
	held := s.standing(fid)
	if held == nil {
		return api.ErrFid
	}
	defer held.giveUp()
	return s.tree.remove(held.at.node)
}

// Clunk gives a fid up (P3).
func (s *Server) Clunk(fid int) api.Errno {
	if s == nil {
		return api.ErrClosed
	}
	s.enter()
	defer s.leave()
	held := s.standing(fid)
	if held == nil {
		return api.ErrFid
	}
	held.giveUp()
	return api.OK
}

// Bind lays a directory over or under another one (P9).
func (s *Server) Bind(from int, onto int, how int) api.Errno {
	if s == nil {
		return api.ErrClosed
	}
	s.enter()
	defer s.leave()
	dirs, e := s.directories(from, onto)
	if e != api.OK {
		return e
	}
	return dirs[1].bind(dirs[0], how)
}

// Unbind takes all away that lies over a directory (P9).
func (s *Server) Unbind(onto int) api.Errno {
	if s == nil {
		return api.ErrClosed
	}
	s.enter()
	defer s.leave()
	dirs, e := s.directories(onto)
	if e != api.OK {
		return e
	}
	return dirs[0].unbind()
}

// Used tells how many bytes lie in a node (P10).
func (s *Server) Used(fid int) (int, api.Errno) {
	if s == nil {
		return 0, api.ErrClosed
	}
	s.enter()
	defer s.leave()
	held := s.standing(fid)
	switch {
	case held == nil:
		return 0, api.ErrFid
	case held.at.node.isGone():
		return 0, api.ErrGone
	}
	return held.at.used(), api.OK
}

// Calls tells how many calls there were (P10).
func (s *Server) Calls() int {
	if s == nil {
		return 0
	}
	return int(s.calls.Load())
}

// enter lets a call in. The call is counted under the lock, so that no other call comes between its being counted and what it does.
func (s *Server) enter() {
	s.made.Do(s.plant)
	s.lock.Lock()
	s.calls.Add(1)
}

// leave lets the next call in.
func (s *Server) leave() {
	s.lock.Unlock()
}

// plant makes the tree.
func (s *Server) plant() {
	s.tree = newTree()
}
