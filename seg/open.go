package seg

import (
	"verbatim/api"
	"verbatim/frame"
	"verbatim/leb"
	"verbatim/post"
)

// Open is the segment of bytes.
func Open(b []byte) (*Seg, api.Errno) {
	frames, e := frame.All(b)
	if e != api.OK || len(frames) == 0 {
		return nil, api.ErrCorrupt
	}
	head, frames := frames[0], frames[1:]
	many, is := readHead(head, len(frames))
	if !is {
		return nil, api.ErrCorrupt
	}
	docs, is := readDocs(frames[:many])
	if !is {
		return nil, api.ErrCorrupt
	}
	posts, is := readTerms(frames[many:], many)
	if !is {
		return nil, api.ErrCorrupt
	}
	return &Seg{docs: docs, posts: posts}, api.OK
}

// reader reads what stands in one frame. It finds what is wrong there, be it an error to leb or not.
type reader struct {
	*leb.Reader
	wrong bool
}

func newReader(b []byte) *reader { return &reader{Reader: leb.New(b)} }

// want has something hold for what was read.
func (r *reader) want(holds bool) { r.wrong = r.wrong || !holds }

// rest is all that is left.
func (r *reader) rest() []byte { return r.Bytes(r.Left()) }

// isRead tells whether the frame was read up to its end, and nothing is wrong there.
func (r *reader) isRead() bool { return !r.wrong && r.Err() == api.OK && r.Left() == 0 }

// readHead is how many documents there are, if so many frames are theirs and the terms'. More of either can't be, and no sum of what may be is too great for an int.
func readHead(b []byte, frames int) (int, bool) {
	r := newReader(b)
	docs := r.Int(frames)
	terms := r.Int(frames)
	r.want(docs+terms == frames)
	return docs, r.isRead()
}

// readDocs is the documents of their frames.
func readDocs(frames [][]byte) ([]api.Doc, bool) {
	var docs []api.Doc
	for _, b := range frames {
		r := newReader(b)
		key := r.Text(api.MaxKey)
		text := r.rest()
		if !r.isRead() {
			return nil, false
		}
		docs = append(docs, api.Doc{Key: string(key), Text: string(text)})
	}
	return docs, areValid(docs)
}

// readTerms is the bytes of each token's postings, of so many documents.
func readTerms(frames [][]byte, docs int) (map[int][]byte, bool) {
	posts := map[int][]byte{}
	least := 0
	for _, b := range frames {
		r := newReader(b)
		token := r.Int(api.MaxTokens - 1)
		rest := r.rest()
		r.want(token >= least)
		r.want(arePosts(rest, int64(docs)))
		if !r.isRead() {
			return nil, false
		}
		posts[token] = rest
		least = token + 1
	}
	return posts, true
}

// arePosts tells whether these are the bytes of postings, one at least, of so many documents.
func arePosts(b []byte, docs int64) bool {
	l, e := post.Get(b)
	return e == api.OK && len(l) > 0 && l[len(l)-1].Doc < docs
}
