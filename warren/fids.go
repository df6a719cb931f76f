package warren

import (
	"slices"

	"warren/api"
)

// stand is what a fid holds.
type stand struct {
	at   *place // none: the fid stands nowhere
	open bool
}

// isFid tells whether a number may be a fid.
func isFid(number int) bool {
	return 0 <= number && number <= api.MaxFid
}

// standing gives what a fid holds, or nil if it stands nowhere.
func (s *Server) standing(fid int) *stand {
	if !isFid(fid) || s.fids[fid].at == nil {
		return nil
	}
	return &s.fids[fid]
}

// opened gives the place at which a fid stands that is open.
func (s *Server) opened(fid int) (*place, api.Errno) {
	held := s.standing(fid)
	switch {
	case held == nil:
		return nil, api.ErrFid
	case !held.open:
		return nil, api.ErrOpen
	}
	return held.at, api.OK
}

// openedFile gives the file at which a fid stands that is open.
func (s *Server) openedFile(fid int) (*file, api.Errno) {
	at, e := s.opened(fid)
	if e != api.OK {
		return nil, e
	}
	return at.file()
}

// directories gives the directories at which fids stand. An error of any of them comes ahead of all later errors, so each is looked for at all of them before the next.
func (s *Server) directories(fids ...int) ([]*directory, api.Errno) {
	nodes := make([]node, len(fids))
	for i, fid := range fids {
		held := s.standing(fid)
		if held == nil {
			return nil, api.ErrFid
		}
		nodes[i] = held.at.node
	}
	if slices.ContainsFunc(nodes, node.isGone) {
		return nil, api.ErrGone
	}
	dirs := make([]*directory, len(nodes))
	for i, n := range nodes {
		d, ok := n.(*directory)
		if !ok {
			return nil, api.ErrDir
		}
		dirs[i] = d
	}
	return dirs, api.OK
}

// giveUp lets the fid stand nowhere.
func (h *stand) giveUp() {
	*h = stand{}
}

// checkWalk tells what keeps a walk from its first step.
func (s *Server) checkWalk(fid int, to int, names []string) api.Errno {
	held := s.standing(fid)
	switch {
	case held == nil:
		return api.ErrFid
	case held.open:
		return api.ErrOpen
	case !isFid(to):
		return api.ErrArg
	case to != fid && s.standing(to) != nil:
		return api.ErrFid
	}
	return checkNames(names)
}
