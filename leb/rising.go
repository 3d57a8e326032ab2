package leb

import "verbatim/api"

// beyond is the first integer that an int64 can't hold.
const beyond uint64 = 1 << 63

// PutRising is the bytes of increasing integers.
func PutRising(l []int64) ([]byte, api.Errno) {
	b := Put(uint64(len(l)))
	last := int64(-1) // so that the first one is its own difference, less 1
	for _, n := range l {
		if n <= last {
			return nil, api.ErrArg
		}
		b = add(b, uint64(n-(last+1)))
		last = n
	}
	return b, api.OK
}

// GetRising is the increasing integers that bytes begin with, and how many of the bytes are theirs.
// Their number is what somebody wrote there: the list grows with what is read, and not ahead of it.
func GetRising(b []byte, most int) ([]int64, int, api.Errno) {
	many, at, e := Get(b)
	if e != api.OK {
		return nil, 0, e
	}
	if over(many, most) {
		return nil, 0, api.ErrTooMany
	}
	var l []int64
	var least uint64 // that the next one may be
rising:
	for range many {
		gap, n, wrong := Get(b[at:])
		switch {
		case wrong != api.OK:
			e = wrong
			break rising
		case gap >= beyond-least: // not least+gap, which may wrap round
			e = api.ErrLong
			break rising
		}
		l = append(l, int64(least+gap))
		least += gap + 1
		at += n
	}
	if e != api.OK {
		return nil, 0, e
	}
	return l, at, api.OK
}
