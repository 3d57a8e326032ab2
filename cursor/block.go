package cursor

import (
	"slices"

	"verbatim/api"
	"verbatim/leb"
)

// block is the postings of one, from the cursor's position on.
type block struct {
	posts []api.Post
}

// skip leaves out the documents ahead of one; false: no other ones are left.
func (b *block) skip(doc int64) bool {
	at := slices.IndexFunc(b.posts, func(p api.Post) bool { return p.Doc >= doc })
	if at < 0 {
		b.posts = nil
		return false
	}
	b.posts = b.posts[at:]
	return true
}

// read is the block that has these bytes, behind a document. The bytes are postings', so leb has no error to tell.
func read(left []byte, doc int64) block {
	rising := func() []int64 {
		l, size, _ := leb.GetRising(left, api.MaxSpots)
		left = left[size:]
		return l
	}
	var b block
	for len(left) > 0 {
		gap, size, _ := leb.Get(left)
		left = left[size:]
		doc += 1 + int64(gap)
		pos := rising()
		at := rising()
		b.posts = append(b.posts, api.Post{Doc: doc, Spots: spots(pos, at)})
	}
	return b
}

// spots are those of as many Pos and At.
func spots(pos, at []int64) []api.Spot {
	var l []api.Spot
	for i := range pos {
		l = append(l, api.Spot{Pos: pos[i], At: at[i]})
	}
	return l
}
