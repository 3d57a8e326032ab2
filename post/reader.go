package post

import (
	"verbatim/api"
	"verbatim/leb"
)

// none stands for the document ahead of the first one, so that the gap to that one counts like any other.
const none int64 = -1

// reader reads one thing behind the other. Behind what is wrong nothing is left, so all reading ends there.
type reader struct {
	left []byte
	last int64 // the document of the posting that was read last
	bad  bool
}

func (r *reader) fail() {
	r.left, r.bad = nil, true
}

// number is the next integer.
func (r *reader) number(most uint64) uint64 {
	n, size, e := leb.Get(r.left)
	if e != api.OK || n > most {
		r.fail()
		return 0
	}
	r.left = r.left[size:]
	return n
}

// rising is the next integers that increase.
func (r *reader) rising() []int64 {
	l, size, e := leb.GetRising(r.left, api.MaxSpots)
	if e != api.OK {
		r.fail()
		return nil
	}
	r.left = r.left[size:]
	return l
}

// doc is the document that the next gap leads to.
func (r *reader) doc() int64 {
	doc := r.last + 1 + int64(r.number(api.MaxDocs))
	if doc > api.MaxDocs {
		r.fail()
	}
	return doc
}

// part is what stands inside a block, or a group, if it ends where its beginning says: at that document, and behind so many bytes.
func (r *reader) part(inside func() []api.Post) []api.Post {
	doc := r.doc()
	size := r.number(uint64(len(r.left)))
	end := len(r.left) - int(size)
	l := inside()
	if r.last != doc || len(r.left) != end {
		r.fail()
	}
	return l
}

// post is the next posting, or nothing if it is none.
func (r *reader) post() []api.Post {
	doc := r.doc()
	pos := r.rising()
	at := r.rising()
	if len(pos) == 0 || len(pos) != len(at) {
		r.fail()
		return nil
	}
	r.last = doc
	var l []api.Spot
	for i := range pos {
		l = append(l, api.Spot{Pos: pos[i], At: at[i]})
	}
	return []api.Post{{Doc: doc, Spots: l}}
}
