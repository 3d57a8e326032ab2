package seg

import (
	"slices"

	"verbatim/api"
	"verbatim/bpe"
	"verbatim/frame"
	"verbatim/leb"
	"verbatim/mem"
	"verbatim/post"
)

// Build is a segment's bytes, of documents.
func Build(c *bpe.Coder, l []api.Doc) ([]byte, api.Errno) {
	if c == nil || !areValid(l) {
		return nil, api.ErrArg
	}
	m := gather(c, l)
	terms := m.Terms()
	var b []byte
	put := func(parts ...[]byte) {
		b = append(b, frame.Put(slices.Concat(parts...))...)
	}
	put(number(len(l)), number(len(terms)))
	for _, d := range l {
		put(number(len(d.Key)), []byte(d.Key), []byte(d.Text))
	}
	for _, token := range terms {
		posts, _ := post.Put(m.Posts(token)) // a mem's postings are valid
		put(number(token), posts)
	}
	return b, api.OK
}

// gather is the tokens of documents. These are valid, and so short and few enough that there is no error to tell.
func gather(c *bpe.Coder, l []api.Doc) *mem.Mem {
	m := mem.New()
	for i, d := range l {
		tokens, _ := c.Encode([]byte(d.Text))
		starts, _ := c.Starts(tokens)
		m.Add(int64(i), tokens, starts)
	}
	return m
}

// number is leb's bytes of what is never negative.
func number(n int) []byte { return leb.Put(uint64(n)) }
