package leb

import (
	"bytes"

	"verbatim/api"
)

// Reader reads one thing behind the other, up to the first error.
type Reader struct {
	left []byte
	err  api.Errno
}

// New is a reader of bytes. They are copied, since they may change before they are read.
func New(b []byte) *Reader {
	return &Reader{left: bytes.Clone(b)}
}

// Int is the next integer, or 0 if it is greater than most.
func (r *Reader) Int(most int) int {
	var found int
	r.read(func(left []byte) (int, api.Errno) {
		n, many, e := Get(left)
		if e != api.OK {
			return 0, e
		}
		if over(n, most) {
			return 0, api.ErrLong
		}
		found = int(n)
		return many, api.OK
	})
	return found
}

// Bytes is the next n bytes.
func (r *Reader) Bytes(n int) []byte {
	if n <= 0 {
		return nil
	}
	var found []byte
	r.read(func(left []byte) (int, api.Errno) {
		if n > len(left) {
			return 0, api.ErrEnd
		}
		found = bytes.Clone(left[:n])
		return n, api.OK
	})
	return found
}

// Text is the next integer's many bytes.
func (r *Reader) Text(most int) []byte {
	return r.Bytes(r.Int(most))
}

// Err is the first error.
func (r *Reader) Err() api.Errno {
	return r.err
}

// Left is how many bytes are left.
func (r *Reader) Left() int {
	return len(r.left)
}

// read does what all reading has in common: get is not called after an error, and tells how many bytes it took.
// With an error no bytes are left, since none of them can be read any more.
func (r *Reader) read(get func(left []byte) (int, api.Errno)) {
	if r.err != api.OK {
		return
	}
	n, e := get(r.left)
	if e != api.OK {
		r.left, r.err = nil, e
		return
	}
	r.left = r.left[n:]
}
