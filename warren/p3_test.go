package warren

import (
	"testing"

	"warren/api"
)

func TestP3AttachBounds(t *testing.T) {
	s := &Server{}
	for _, fid := range numbers {
		first, second := api.OK, api.ErrFid
		if fid < 0 || fid > 50 {
			first, second = api.ErrArg, api.ErrArg
		}
		want(t, "Attach", s.Attach(fid), first)
		want(t, "Attach again", s.Attach(fid), second)
	}
	all := &Server{}
	for fid := range api.MaxFid + 1 {
		want(t, "Attach of each", all.Attach(fid), api.OK)
		wantPath(t, all, fid, "/")
	}
}

func TestP3AttachOfOneThatStands(t *testing.T) {
	s := grown(t, "a/")
	wantWalk(t, s, 1, 2, "a", 1, api.OK)
	want(t, "Open(2)", s.Open(2), api.OK)
	want(t, "Attach(2)", s.Attach(2), api.ErrFid)
	wantPath(t, s, 2, "/a open")
}

func TestP3Clunk(t *testing.T) {
	s := grown(t, "a/")
	for _, fid := range numbers {
		if fid != 1 {
			want(t, "Clunk of one that stands nowhere", s.Clunk(fid), api.ErrFid)
		}
	}
	wantWalk(t, s, 1, 2, "a", 1, api.OK)
	want(t, "Open(2)", s.Open(2), api.OK)
	want(t, "Clunk(2)", s.Clunk(2), api.OK)
	wantPath(t, s, 2, "nowhere")
	wantPath(t, s, 1, "/")
	want(t, "Clunk(2) again", s.Clunk(2), api.ErrFid)
	want(t, "Attach(2)", s.Attach(2), api.OK)
	wantPath(t, s, 2, "/")
	want(t, "Open(2)", s.Open(2), api.OK)
	want(t, "Clunk(2)", s.Clunk(2), api.OK)
	wantWalk(t, s, 1, 2, "a", 1, api.OK)
	wantPath(t, s, 2, "/a")
}

func TestP3ClunkOfOneThatIsGone(t *testing.T) {
	s := grown(t, "a/")
	wantWalk(t, s, 1, 2, "a", 1, api.OK)
	lose(t, s, "a")
	want(t, "Clunk(2)", s.Clunk(2), api.OK)
	wantPath(t, s, 2, "nowhere")
}

// In all other calls ErrFid comes first, whatever else is wrong.
func TestP3ErrFidComesFirst(t *testing.T) {
	s := grown(t)
	for _, fid := range numbers {
		if fid == 1 {
			continue
		}
		for name, call := range calls(s, fid) {
			want(t, name+" of one that stands nowhere", call(), api.ErrFid)
		}
		want(t, "Bind from nowhere", s.Bind(fid, 1, 9), api.ErrFid)
		want(t, "Bind onto nowhere", s.Bind(1, fid, 9), api.ErrFid)
	}
}
