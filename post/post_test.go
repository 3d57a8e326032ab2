package post_test

import (
	"bytes"
	"math"
	"slices"
	"sync"
	"testing"

	"verbatim/api"
	"verbatim/leb"
	"verbatim/post"
)

const (
	maxPosts = 4096
	maxSpots = 4096
	maxDocs  = 1 << 32
)

// joined is the bytes of integers, one behind the other.
func joined(l ...int64) []byte {
	var b []byte
	for _, n := range l {
		b = append(b, leb.Put(uint64(n))...)
	}
	return b
}

// isValid is the chapter's words.
func isValid(l []api.Post) bool {
	for i, p := range l {
		if p.Doc < 0 || p.Doc > maxDocs || i > 0 && p.Doc <= l[i-1].Doc {
			return false
		}
		if len(p.Spots) < 1 || len(p.Spots) > maxSpots {
			return false
		}
		for k, s := range p.Spots {
			if s.Pos < 0 || s.At < 0 || k > 0 && (s.Pos <= p.Spots[k-1].Pos || s.At <= p.Spots[k-1].At) {
				return false
			}
		}
	}
	return len(l) <= maxPosts
}

// written is the chapter's words: postings, then blocks of their bytes, then groups of the blocks' bytes.
func written(l []api.Post) []byte {
	var posts, blocks, groups [][]byte
	var docs []int64
	before := int64(-1)
	for _, p := range l {
		b := joined(p.Doc-before-1, int64(len(p.Spots)))
		last := int64(-1)
		for _, s := range p.Spots {
			b = append(b, joined(s.Pos-last-1)...)
			last = s.Pos
		}
		b = append(b, joined(int64(len(p.Spots)))...)
		last = -1
		for _, s := range p.Spots {
			b = append(b, joined(s.At-last-1)...)
			last = s.At
		}
		posts, docs, before = append(posts, b), append(docs, p.Doc), p.Doc
	}
	blocks, docs = wrapped(posts, docs)
	groups, _ = wrapped(blocks, docs)
	return slices.Concat(joined(int64(len(l))), bytes.Join(groups, nil))
}

// wrapped is four things each in one, and the last document of each.
func wrapped(l [][]byte, docs []int64) ([][]byte, []int64) {
	var all [][]byte
	var lasts []int64
	before := int64(-1)
	for len(l) > 0 {
		n := min(4, len(l))
		inside := bytes.Join(l[:n], nil)
		last := docs[n-1]
		all = append(all, append(joined(last-before-1, int64(len(inside))), inside...))
		lasts = append(lasts, last)
		l, docs, before = l[n:], docs[n:], last
	}
	return all, lasts
}

// read is the chapter's words: it takes the postings from where they stand, whatever is written around them, and holds the bytes against those that these have.
func read(b []byte) ([]api.Post, api.Errno) {
	n, at, e := leb.Get(b)
	if e != api.OK || n > maxPosts {
		return nil, api.ErrCorrupt
	}
	left := b[at:]
	skip := func() uint64 {
		n, size, _ := leb.Get(left)
		left = left[size:]
		return n
	}
	rising := func() []int64 {
		l, size, _ := leb.GetRising(left, maxSpots)
		left = left[size:]
		return l
	}
	var l []api.Post
	doc := int64(-1)
	for i := range int(n) {
		if i%16 == 0 {
			skip()
			skip()
		}
		if i%4 == 0 {
			skip()
			skip()
		}
		doc += 1 + int64(skip()%(1<<33))
		p := api.Post{Doc: doc}
		pos, at := rising(), rising()
		for k := range min(len(pos), len(at)) {
			p.Spots = append(p.Spots, api.Spot{Pos: pos[k], At: at[k]})
		}
		l = append(l, p)
	}
	if !isValid(l) || !bytes.Equal(written(l), b) {
		return nil, api.ErrCorrupt
	}
	return l, api.OK
}

func same(l, m []api.Post) bool {
	return slices.EqualFunc(l, m, func(p, q api.Post) bool {
		return p.Doc == q.Doc && slices.Equal(p.Spots, q.Spots)
	})
}

// dice are numbers that look like chance and are the same each time.
type dice uint64

func (x *dice) next() uint64 {
	*x = *x*6364136223846793005 + 1442695040888963407
	return uint64(*x) ^ uint64(*x)>>29
}

func (x *dice) roll(n int) int { return int(x.next() >> 33 % uint64(n)) }

// rising are n integers at most, close together or far apart.
func (x *dice) rising(n int, most int64) []int64 {
	var l []int64
	width := x.roll(64)
	for range n {
		if i := int64(x.next() >> 1 >> width); i <= most {
			l = append(l, i)
		}
	}
	slices.Sort(l)
	return slices.Compact(l)
}

func (x *dice) spots(n int) []api.Spot {
	pos, at := x.rising(n, math.MaxInt64), x.rising(n, math.MaxInt64)
	l := []api.Spot{{Pos: pos[0], At: at[0]}}
	for i := 1; i < min(len(pos), len(at)); i++ {
		l = append(l, api.Spot{Pos: pos[i], At: at[i]})
	}
	return l
}

func (x *dice) posts(n int) []api.Post {
	var l []api.Post
	for _, doc := range x.rising(n, maxDocs) {
		l = append(l, api.Post{Doc: doc, Spots: x.spots(1 + x.roll(6))})
	}
	return l
}

// one is a posting with one spot.
func one(doc, pos, at int64) api.Post {
	return api.Post{Doc: doc, Spots: spots(pos, at)}
}

// spots are those of pairs of numbers.
func spots(n ...int64) []api.Spot {
	var l []api.Spot
	for i := 0; i < len(n); i += 2 {
		l = append(l, api.Spot{Pos: n[i], At: n[i+1]})
	}
	return l
}

// row is n documents, so far apart, with one spot each.
func row(n int, gap int64) []api.Post {
	var l []api.Post
	for i := range n {
		l = append(l, one(int64(i)*gap, int64(i), int64(2*i)))
	}
	return l
}

// dense is n spots without a gap.
func dense(n int) []api.Spot {
	var l []api.Spot
	for i := range n {
		l = append(l, api.Spot{Pos: int64(i), At: int64(i)})
	}
	return l
}

// samples are valid postings: few and many, close and far apart, up to the limits.
func samples() [][]api.Post {
	l := [][]api.Post{
		nil, {}, {one(0, 0, 0)}, {one(3, 2, 5)}, {one(127, 127, 127)}, {one(128, 128, 128)},
		{one(maxDocs, 0, 0)}, {one(0, math.MaxInt64, math.MaxInt64)}, {one(0, 0, math.MaxInt64), one(maxDocs, math.MaxInt64, 0)},
		{one(maxDocs-1, 0, 0), one(maxDocs, 0, 0)},
		{{Doc: 1, Spots: spots(0, 0, 1, 1, 2, 2)}, {Doc: 2, Spots: spots(7, 300, 8, 1<<40, math.MaxInt64, math.MaxInt64)}},
		{{Doc: 1, Spots: spots(9, 0, 10, math.MaxInt64-1)}, {Doc: 9, Spots: spots(0, 9, math.MaxInt64-1, 10)}},
	}
	for n := range 70 {
		l = append(l, row(n, 1), row(n, 129))
	}
	for _, n := range []int{127, 128, 129, 255, 256, 257} { // where a length gets a byte more
		l = append(l, []api.Post{{Doc: 5, Spots: dense(n)}}, row(n, 7))
	}
	x := dice(1)
	for i := range 300 {
		l = append(l, x.posts(1+i%50))
	}
	return l
}

func wantPut(t *testing.T, what string, l []api.Post, want []byte, err api.Errno) {
	t.Helper()
	if b, e := post.Put(l); !bytes.Equal(b, want) || e != err || e != api.OK && b != nil {
		t.Errorf("%s: % x, error %d, want % x, error %d", what, b[:min(len(b), 99)], e, want[:min(len(want), 99)], err)
	}
}

func wantGet(t *testing.T, what string, b []byte, want []api.Post, err api.Errno) {
	t.Helper()
	if l, e := post.Get(b); !same(l, want) || e != err || e != api.OK && l != nil {
		t.Errorf("%s: % x: %d postings, error %d, want %d, error %d", what, b[:min(len(b), 99)], len(l), e, len(want), err)
	}
}

// wantRead holds what bytes are against the chapter's words.
func wantRead(t *testing.T, what string, b []byte) {
	t.Helper()
	want, e := read(b)
	wantGet(t, what, b, want, e)
}

// TestP91Known is the chapter's examples, and what can be told by hand.
func TestP91Known(t *testing.T) {
	for _, c := range []struct {
		name string
		l    []api.Post
		want string
	}{
		{"none", nil, "\x00"},
		{"no place in memory", []api.Post{}, "\x00"},
		{"one", []api.Post{one(3, 2, 5)}, "\x01" + "\x03\x07" + "\x03\x05" + "\x03\x01\x02\x01\x05"},
		{"the first one there may be", []api.Post{one(0, 0, 0)}, "\x01" + "\x00\x07" + "\x00\x05" + "\x00\x01\x00\x01\x00"},
		{
			"two", []api.Post{one(3, 2, 5), one(4, 0, 1)},
			"\x02" + "\x04\x0c" + "\x04\x0a" + "\x03\x01\x02\x01\x05" + "\x00\x01\x00\x01\x01",
		},
		{
			"several spots", []api.Post{{Doc: 1, Spots: spots(0, 1, 1, 4, 5, 6)}},
			"\x01" + "\x01\x0b" + "\x01\x09" + "\x01\x03\x00\x00\x03\x03\x01\x02\x01",
		},
		{
			"a second block", []api.Post{one(0, 0, 0), one(2, 0, 0), one(3, 0, 0), one(6, 0, 0), one(9, 8, 7)},
			"\x05" + "\x09\x1d" +
				"\x06\x14" + "\x00\x01\x00\x01\x00" + "\x01\x01\x00\x01\x00" + "\x00\x01\x00\x01\x00" + "\x02\x01\x00\x01\x00" +
				"\x02\x05" + "\x02\x01\x08\x01\x07",
		},
		{
			"the last one there may be", []api.Post{one(maxDocs, 0, 0)},
			"\x01" + "\x80\x80\x80\x80\x10\x0f" + "\x80\x80\x80\x80\x10\x09" + "\x80\x80\x80\x80\x10\x01\x00\x01\x00",
		},
	} {
		wantPut(t, c.name, c.l, []byte(c.want), api.OK)
		wantGet(t, c.name, []byte(c.want), c.l, api.OK)
	}
}

// TestP91SecondGroup: a group, and the block that it begins with, count from the document ahead of them, and not from the beginning.
func TestP91SecondGroup(t *testing.T) {
	var l []api.Post
	for i := range 17 {
		l = append(l, one(int64(i*2+1), 0, 0))
	}
	posting := "\x01\x01\x00\x01\x00"
	block := "\x07\x14" + posting + posting + posting + posting
	want := "\x11" + "\x1f\x58" + block + block + block + block + "\x01\x07" + "\x01\x05" + posting
	wantPut(t, "17", l, []byte(want), api.OK)
	wantGet(t, "17", []byte(want), l, api.OK)
}

func TestP91Put(t *testing.T) {
	for _, l := range samples() {
		wantPut(t, "valid", l, written(l), api.OK)
	}
}

// TestP91Limits: what the limits allow has bytes, and what they don't is told.
func TestP91Limits(t *testing.T) {
	most := row(maxPosts, 1)
	long := []api.Post{{Doc: 7, Spots: dense(maxSpots)}}
	both := row(maxPosts, maxDocs/(maxPosts-1))
	both[0].Spots, both[maxPosts-1].Spots, both[maxPosts-1].Doc = dense(maxSpots), dense(maxSpots), maxDocs
	for _, l := range [][]api.Post{most, long, both} {
		wantPut(t, "up to a limit", l, written(l), api.OK)
		wantGet(t, "up to a limit", written(l), l, api.OK)
	}
	wantPut(t, "4097 postings", row(maxPosts+1, 1), nil, api.ErrTooMany)
	wantPut(t, "4097 postings that are none", make([]api.Post, maxPosts+1), nil, api.ErrTooMany)
	wantPut(t, "very many postings", make([]api.Post, 1<<20), nil, api.ErrTooMany)
	wantPut(t, "4097 spots", []api.Post{{Doc: 7, Spots: dense(maxSpots + 1)}}, nil, api.ErrTooMany)
	wantPut(t, "4097 spots that are none", []api.Post{{Doc: 7, Spots: make([]api.Spot, maxSpots+1)}}, nil, api.ErrTooMany)
	wantPut(t, "4097 spots behind others", append(row(maxPosts-1, 1), api.Post{Doc: maxDocs, Spots: dense(maxSpots + 1)}), nil, api.ErrTooMany)
	wantGet(t, "4097 postings", written(row(maxPosts+1, 1)), nil, api.ErrCorrupt)
	wantGet(t, "4097 spots", written([]api.Post{{Doc: 7, Spots: dense(maxSpots + 1)}}), nil, api.ErrCorrupt)
	wantGet(t, "a document too far", written([]api.Post{one(maxDocs+1, 0, 0)}), nil, api.ErrCorrupt)
	for n := range 40 { // wherever it stands in its block and its group
		wantPut(t, "a last document too far", append(row(n, 1), one(maxDocs+1, 0, 0)), nil, api.ErrArg)
		wantGet(t, "a last document too far", written(append(row(n, 1), one(maxDocs+1, 0, 0))), nil, api.ErrCorrupt)
		wantGet(t, "one behind the last document", written(append(row(n, 1), one(maxDocs, 0, 0), one(maxDocs+1, 0, 0))), nil, api.ErrCorrupt)
		wantGet(t, "the last document", written(append(row(n, 1), one(maxDocs, 0, 0))), append(row(n, 1), one(maxDocs, 0, 0)), api.OK)
	}
	wantGet(t, "no spots", written([]api.Post{{Doc: 7}}), nil, api.ErrCorrupt)
}

// TestP91WrongArg is postings that are not valid, but not too many.
func TestP91WrongArg(t *testing.T) {
	bad := func(p api.Post) {
		t.Helper()
		last := api.Post{Doc: max(p.Doc, 0) + 1, Spots: spots(0, 0)}
		wantPut(t, "alone", []api.Post{p}, nil, api.ErrArg)
		wantPut(t, "ahead", []api.Post{p, last}, nil, api.ErrArg)
		wantPut(t, "behind", append(row(4, 1), p), nil, api.ErrArg)
		wantPut(t, "behind many", append(row(16, 1), p), nil, api.ErrArg)
	}
	for _, doc := range []int64{-1, math.MinInt64, maxDocs + 1, math.MaxInt64} {
		bad(one(doc, 0, 0))
	}
	for _, s := range [][]int64{
		{}, {-1, 0}, {0, -1}, {-1, -1}, {math.MinInt64, 0}, {0, math.MinInt64}, {-1, 0, 0, 1}, {0, -1, 1, 0},
		{0, 0, 0, 1}, {0, 0, 1, 0}, {0, 0, 0, 0}, {5, 5, 4, 6}, {5, 5, 6, 4}, {5, 5, -1, 6}, {5, 5, 6, -1},
		{0, 0, 1, 1, 1, 2}, {0, 0, 1, 1, 2, 1}, {0, 0, 5, 5, 3, 6}, {0, 0, 5, 5, 6, 3},
		{math.MaxInt64, 0, math.MinInt64, 1}, {0, math.MaxInt64, 1, math.MinInt64}, {math.MaxInt64, 0, math.MaxInt64, 1},
	} {
		bad(api.Post{Doc: 100, Spots: spots(s...)})
	}
	bad(api.Post{Doc: 100, Spots: []api.Spot{}})
	for _, docs := range [][]int64{{0, 0}, {1, 0}, {3, 3}, {5, 9, 9}, {5, 9, 7}, {5, 9, 4}, {0, -1}, {maxDocs, maxDocs}, {maxDocs, math.MinInt64}} {
		var l []api.Post
		for _, doc := range docs {
			l = append(l, one(doc, 0, 0))
		}
		wantPut(t, "documents", l, nil, api.ErrArg)
	}
}

// TestP91WrongAnywhere: each posting is looked at, wherever it stands.
func TestP91WrongAnywhere(t *testing.T) {
	for i := range 40 {
		for _, p := range []api.Post{{}, one(-1, 0, 0), one(maxDocs+1, 0, 0), one(int64(i-1), 0, 0), one(int64(i+1), 0, 0), {Doc: int64(i)}, one(int64(i), -1, 0), one(int64(i), 0, -1)} {
			l := row(41, 1)
			l[i] = p
			wantPut(t, "wrong", l, nil, api.ErrArg)
			if got, e := post.Get(written(l)); e != api.ErrCorrupt || got != nil {
				t.Errorf("wrong at %d: %d postings, error %d", i, len(got), e)
			}
		}
	}
}

// TestP2Order: that they are too many comes ahead of all else, be it another posting that is wrong.
func TestP2Order(t *testing.T) {
	many := api.Post{Doc: 7, Spots: dense(maxSpots + 1)}
	wantPut(t, "a negative document with too many spots", []api.Post{{Doc: -1, Spots: dense(maxSpots + 1)}}, nil, api.ErrTooMany)
	wantPut(t, "a wrong one ahead", []api.Post{one(-1, 0, 0), many}, nil, api.ErrTooMany)
	wantPut(t, "a wrong one behind", []api.Post{many, one(7, 0, 0)}, nil, api.ErrTooMany)
	wantPut(t, "no spots ahead", []api.Post{{}, {}, {}, {}, {}, many}, nil, api.ErrTooMany)
	wantPut(t, "too many of both", append(make([]api.Post, maxPosts), many), nil, api.ErrTooMany)
	l := row(maxPosts+1, 1)
	l[0].Doc = -1
	wantPut(t, "too many, and a wrong one", l, nil, api.ErrTooMany)
}

// TestP91NoBytes is what anybody may hand in, and nobody wrote.
func TestP91NoBytes(t *testing.T) {
	huge := string(leb.Put(math.MaxUint64))
	half := string(leb.Put(1 << 63))
	for _, s := range []string{
		"", "\x80", "\x80\x00", "\x00\x00", "\x01", "\x01\x00", "\x01\x00\x00", "\x01\x00\x07\x00\x05",
		"\x01\x00\x04\x00\x02\x00\x00",                                 // spots are missing: their number is
		"\x01\x00\x05\x00\x03\x00\x00\x00",                             // no spots
		"\x01\x00\x06\x00\x04\x00\x01\x00\x00",                         // a Pos, and no At
		"\x01\x00\x06\x00\x04\x00\x00\x01\x00",                         // an At, and no Pos
		"\x01\x00\x08\x00\x06\x00\x02\x00\x00\x01\x00",                 // two Pos, and one At
		"\x01\x00\x08\x00\x06\x00\x01\x00\x02\x00\x00",                 // one Pos, and two At
		"\x01\x01\x07\x00\x05\x00\x01\x00\x01\x00",                     // a group that ends with another document
		"\x01\x00\x07\x01\x05\x00\x01\x00\x01\x00",                     // a block that ends with another document
		"\x01\x00\x07\x00\x05\x01\x01\x00\x01\x00",                     // a posting of another document
		"\x01\x01\x07\x01\x05\x00\x01\x00\x01\x00",                     // the same, and both around it agree
		"\x01\x00\x06\x00\x05\x00\x01\x00\x01\x00",                     // a group that is longer than it says
		"\x01\x00\x08\x00\x05\x00\x01\x00\x01\x00",                     // a group that is shorter than it says
		"\x01\x00\x08\x00\x05\x00\x01\x00\x01\x00\x00",                 // there is a byte behind its block
		"\x01\x00\x07\x00\x04\x00\x01\x00\x01\x00",                     // a block that is longer than it says
		"\x01\x00\x07\x00\x06\x00\x01\x00\x01\x00",                     // a block that is shorter than it says
		"\x01\x00\x08\x00\x06\x00\x01\x00\x01\x00\x00",                 // there is a byte behind its posting
		"\x01\x00\x07\x00\x05\x00\x01\x00\x01\x00\x00",                 // there is a byte behind it all
		"\x02\x00\x07\x00\x05\x00\x01\x00\x01\x00",                     // one less than it says
		"\x01\x01\x0c\x01\x0a\x00\x01\x00\x01\x00\x00\x01\x00\x01\x00", // one more than it says
		"\x01\x00\x08\x00\x06\x80\x00\x01\x00\x01\x00",                 // an integer that is written too long
		"\x01\x80\x00\x07\x00\x05\x00\x01\x00\x01\x00",                 // and one around it
		"\x81\x00\x00\x07\x00\x05\x00\x01\x00\x01\x00",                 // and ahead of all
		huge, half, "\x81\x20", "\x81\x20\x00\x07\x00\x05\x00\x01\x00\x01\x00",
		"\x01" + huge + "\x07\x00\x05\x00\x01\x00\x01\x00",
		"\x01\x00" + huge + "\x00\x05\x00\x01\x00\x01\x00",
		"\x01\x00" + half + "\x00\x05\x00\x01\x00\x01\x00",
		"\x01\x00\x10" + huge + "\x05\x00\x01\x00\x01\x00",
		"\x01\x00\x10\x00" + huge + "\x00\x01\x00\x01\x00",
		"\x01\x00\x10\x00\x0e" + huge + "\x01\x00\x01\x00",
		"\x01\x00\x10\x00\x0e\x00" + huge + "\x00\x01\x00",
		"\x01\x00\x10\x00\x0e\x00\x01" + huge + "\x01\x00",
		"\x01\x00\x10\x00\x0e\x00\x01" + half + "\x01\x00",
		"\x01\x00\x10\x00\x0e\x00\x01\x00" + huge + "\x00",
		"\x01\x00\x10\x00\x0e\x00\x01\x00\x01" + huge,
	} {
		wantGet(t, "no bytes", []byte(s), nil, api.ErrCorrupt)
	}
	wantGet(t, "nil", nil, nil, api.ErrCorrupt)
	wantGet(t, "very many of nothing", bytes.Repeat([]byte{0}, 1<<20), nil, api.ErrCorrupt)
	wantGet(t, "very many", bytes.Repeat([]byte{0xff}, 1<<20), nil, api.ErrCorrupt)
}

// parted is one block of postings, of which each number is given: how far the group reaches, the block, and each posting, which has one spot.
func parted(group, block uint64, posts ...uint64) []byte {
	var inside []byte
	for _, gap := range posts {
		inside = slices.Concat(inside, leb.Put(gap), []byte("\x01\x00\x01\x00"))
	}
	for _, reach := range []uint64{block, group} {
		inside = slices.Concat(leb.Put(reach), joined(int64(len(inside))), inside)
	}
	return append(joined(int64(len(posts))), inside...)
}

// TestP91WrapRound: a sum that is too great is no document, though it would be one if what has no room were left out.
func TestP91WrapRound(t *testing.T) {
	wantGet(t, "nothing wrong", parted(0, 0, 0), []api.Post{one(0, 0, 0)}, api.OK)
	wantGet(t, "as far as may be", parted(maxDocs, maxDocs, maxDocs), []api.Post{one(maxDocs, 0, 0)}, api.OK)
	wantGet(t, "as far as may be, behind others", parted(maxDocs, maxDocs, 0, 0, maxDocs-2), []api.Post{one(0, 0, 0), one(1, 0, 0), one(maxDocs, 0, 0)}, api.OK)
	for _, n := range []uint64{maxDocs, maxDocs + 1, 1 << 33, 1 << 62, 1<<63 - 1, 1 << 63, math.MaxUint64} {
		for _, b := range [][]byte{parted(n, 0, 0), parted(0, n, 0), parted(0, 0, n), parted(n, n, 0), parted(0, n, n), parted(n, n+1, n), parted(n+1, n, n)} {
			wantGet(t, "one of them is wrong", b, nil, api.ErrCorrupt)
		}
		far := max(n, maxDocs+1)
		wantGet(t, "too far", parted(far, far, far), nil, api.ErrCorrupt)
		wantGet(t, "the second one is too far", parted(far, far, 0, far-1), nil, api.ErrCorrupt)
		wantGet(t, "the second one is further than they say", parted(far, far, 0, far), nil, api.ErrCorrupt)
	}
	wantGet(t, "once more", parted(3, 3, 3, math.MaxUint64), nil, api.ErrCorrupt)
	wantGet(t, "back", parted(1, 1, 3, math.MaxUint64-2), nil, api.ErrCorrupt)
	wantGet(t, "back to below 0", parted(math.MaxUint64, math.MaxUint64, 3, math.MaxUint64-4), nil, api.ErrCorrupt)
	wantGet(t, "far, and back", parted(0, 0, maxDocs, math.MaxUint64-maxDocs), nil, api.ErrCorrupt)
}

// TestP91Changed: of the bytes of postings each one is needed, as it is, and no other one.
func TestP91Changed(t *testing.T) {
	x := dice(4)
	for _, l := range samples() {
		b := written(l)
		wantRead(t, "whole", b)
		wantGet(t, "a byte behind it all", append(b[:len(b):len(b)], 0), nil, api.ErrCorrupt)
		for at := 0; at < len(b); at += 1 + x.roll(1+len(b)/25) {
			wantGet(t, "truncated", b[:at], nil, api.ErrCorrupt)
			for _, c := range []byte{1, 3, 0x80, byte(x.roll(256))} {
				changed := slices.Clone(b)
				changed[at] ^= c
				wantRead(t, "changed", changed)
			}
			wantRead(t, "a byte less", slices.Delete(slices.Clone(b), at, at+1))
			wantRead(t, "a byte more", slices.Insert(slices.Clone(b), at, byte(x.roll(3))))
		}
	}
}

// TestP91ChangedAll: each byte, of postings that are in two groups, is each other one.
func TestP91ChangedAll(t *testing.T) {
	for _, l := range [][]api.Post{{one(3, 2, 5)}, row(6, 3), row(18, 150)} {
		b := written(l)
		for at := range b {
			for c := range 256 {
				changed := slices.Clone(b)
				changed[at] = byte(c)
				wantRead(t, "changed", changed)
			}
		}
	}
}

// TestP91Swapped: parts that are valid where they stand are not valid elsewhere, nor once more.
func TestP91Swapped(t *testing.T) {
	x := dice(2)
	for range 3000 {
		b := written(x.posts(1 + x.roll(20)))
		c := written(x.posts(1 + x.roll(20)))
		from, to := x.roll(len(b)+1), x.roll(len(c)+1)
		wantRead(t, "of two", slices.Concat(b[:from], c[to:]))
		wantRead(t, "one in the other", slices.Concat(b[:from], c, b[from:]))
	}
}

// TestP91AnyBytes: small numbers, so that much of it looks like postings.
func TestP91AnyBytes(t *testing.T) {
	x := dice(3)
	for range 100000 {
		b := make([]byte, x.roll(30))
		for i := range b {
			b[i] = byte(x.roll(9))
		}
		wantRead(t, "any", b)
	}
	for n := range 1 << 16 { // and all of the numbers of one posting that may be 0 to 3
		b := []byte{1, byte(n & 3), byte(n>>2&3 + 5), byte(n >> 4 & 3), byte(n>>6&3 + 3), byte(n >> 8 & 3), byte(n >> 10 & 3), 0, byte(n >> 12 & 3), byte(n >> 14 & 3)}
		wantRead(t, "one", b)
	}
}

// TestP92 is the round trip, to and fro.
func TestP92(t *testing.T) {
	for i, l := range samples() {
		b, e := post.Put(l)
		if e != api.OK {
			t.Fatalf("%d: error %d", i, e)
		}
		wantGet(t, "to", b, l, api.OK)
		m, _ := post.Get(b)
		wantPut(t, "fro", m, b, api.OK)
	}
}

// TestP92OneEncoding: no two lists of postings have the same bytes.
func TestP92OneEncoding(t *testing.T) {
	seen := map[string][]api.Post{}
	var all func(l []api.Post)
	all = func(l []api.Post) {
		b, e := post.Put(l)
		if m, there := seen[string(b)]; there || e != api.OK {
			t.Errorf("%v and %v: % x, error %d", l, m, b, e)
		}
		seen[string(b)] = slices.Clone(l)
		next := int64(0)
		if len(l) > 0 {
			next = l[len(l)-1].Doc + 1
		}
		for doc := next; doc < 5; doc++ {
			for _, s := range [][]api.Spot{spots(0, 0), spots(0, 1), spots(1, 0), spots(0, 0, 1, 1)} {
				all(append(l[:len(l):len(l)], api.Post{Doc: doc, Spots: s}))
			}
		}
	}
	all(nil)
	for s, l := range seen {
		wantGet(t, "one of all", []byte(s), l, api.OK)
	}
}

// copied is postings in memory of their own.
func copied(l []api.Post) []api.Post {
	var m []api.Post
	for _, p := range l {
		m = append(m, api.Post{Doc: p.Doc, Spots: slices.Clone(p.Spots)})
	}
	return m
}

// spoil overwrites postings, with all spare capacity.
func spoil(l []api.Post) {
	l = l[:cap(l)]
	for i := range l {
		s := l[i].Spots[:cap(l[i].Spots)]
		for k := range s {
			s[k] = api.Spot{Pos: 77, At: 77}
		}
		l[i] = api.Post{Doc: 77}
	}
}

// TestP3TakesNothing: what is passed is not changed, and what lies behind it is not read.
func TestP3TakesNothing(t *testing.T) {
	room := spots(0, 0, 4, 4, 9, 9, 1, 1)
	l := []api.Post{{Doc: 1, Spots: room[:2]}, {Doc: 3, Spots: room[1:3]}, {Doc: 9, Spots: room[3:]}, {Doc: -1}}
	was := copied(l)
	wantPut(t, "ahead of others", l[:3], written(was[:3]), api.OK)
	wantPut(t, "with the others", l, nil, api.ErrArg)
	if !same(l, was) || !slices.Equal(room, spots(0, 0, 4, 4, 9, 9, 1, 1)) {
		t.Errorf("what was passed: %v", l)
	}
	b := slices.Concat([]byte{9}, written(was[:3]), []byte{9, 9})
	wantGet(t, "ahead of others", b[1:len(b)-2], was[:3], api.OK)
	wantGet(t, "with one of the others", b[1:len(b)-1], nil, api.ErrCorrupt)
	wantGet(t, "without its last byte", b[1:len(b)-3], nil, api.ErrCorrupt)
	if !bytes.Equal(b, slices.Concat([]byte{9}, written(was[:3]), []byte{9, 9})) {
		t.Errorf("what was passed: % x", b)
	}
}

// TestP3IsNew: no list that is returned shares memory with what was passed, with another one, or with one beside it.
func TestP3IsNew(t *testing.T) {
	for _, l := range samples() {
		want := written(l)
		mine := copied(l)
		b, _ := post.Put(mine)
		c, _ := post.Put(mine)
		clear(c[:cap(c)])
		spoil(mine)
		if !bytes.Equal(b, want) {
			t.Fatalf("bytes changed to % x, want % x", b, want)
		}
		m, _ := post.Get(b)
		n, _ := post.Get(b)
		clear(b[:cap(b)])
		spoil(n)
		if !same(m, l) {
			t.Fatalf("postings changed to %v, want %v", m, l)
		}
		for i := range m {
			spoil(m[i : i+1 : i+1])
			if !same(m[i+1:], l[i+1:]) {
				t.Fatalf("postings beside %d changed to %v, want %v", i, m[i+1:], l[i+1:])
			}
		}
	}
}

// TestP3SameAnswer: a call hangs on no call ahead of it, be it one that found something wrong.
func TestP3SameAnswer(t *testing.T) {
	l := row(21, 3)
	for range 10 {
		wantPut(t, "wrong", []api.Post{one(5, 5, 5), one(5, 5, 5)}, nil, api.ErrArg)
		wantPut(t, "right", l, written(l), api.OK)
		wantGet(t, "wrong", []byte("\x05\x01\x01"), nil, api.ErrCorrupt)
		wantGet(t, "right", written(l), l, api.OK)
	}
}

// TestP3Reading: many may ask at the same time, of the same postings and the same bytes.
func TestP3Reading(t *testing.T) {
	l := row(40, 9)
	b := written(l)
	var all sync.WaitGroup
	for range 8 {
		all.Go(func() {
			for range 20 {
				wantPut(t, "at the same time", l, b, api.OK)
				wantGet(t, "at the same time", b, l, api.OK)
			}
		})
	}
	all.Wait()
}

// TestP1Long ends soon, with as many postings as may be, and many spots each.
func TestP1Long(t *testing.T) {
	l := row(maxPosts, 5)
	s := dense(256)
	for i := range l {
		l[i].Spots = s
	}
	b, e := post.Put(l)
	if e != api.OK {
		t.Fatalf("error %d", e)
	}
	wantGet(t, "long", b, l, api.OK)
	wantGet(t, "all but the last byte", b[:len(b)-1], nil, api.ErrCorrupt)
	wantGet(t, "more than may be", written([]api.Post{{Spots: dense(1 << 20)}}), nil, api.ErrCorrupt)
}
