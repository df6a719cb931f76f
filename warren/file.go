package warren

import "warren/api"

type file struct {
	common
	bytes   []byte
	version int // how often it was written
}

func newFile(name string, in *directory) *file {
	return &file{common: common{name: name, in: in}}
}

// used tells how many bytes lie in the file.
func (f *file) used() int {
	return len(f.bytes)
}

// read copies n bytes from at on, or as many as there are. Neither number is below 0.
func (f *file) read(at int, n int) []byte {
	rest := f.bytes[min(at, len(f.bytes)):]
	out := make([]byte, min(n, len(rest)))
	copy(out, rest)
	return out
}

// write lets the bytes from at on, which is not below 0, be the data.
func (f *file) write(at int, data []byte) api.Errno {
	// Not at+len(data): the sum may be more than a number holds.
	if at > api.MaxFile-len(data) {
		return api.ErrBig
	}
	if len(data) > 0 {
		f.reach(at + len(data))
		copy(f.bytes[at:], data)
	}
	f.version++
	return api.OK
}

// reach makes the file as long as that, by 0s, if it is shorter.
func (f *file) reach(size int) {
	if more := size - len(f.bytes); more > 0 {
		f.bytes = append(f.bytes, make([]byte, more)...)
	}
}
