package cursor_test

import (
	"bytes"
	"math"
	"slices"
	"sync"
	"testing"

	"verbatim/api"
	"verbatim/cursor"
	"verbatim/post"
)

const (
	maxPosts = 4096
	maxSpots = 4096
	maxDocs  = 1 << 32
	inBlock  = 4
	inGroup  = 16
)

// walk is the chapter's words: a place in a list of postings, and the blocks in which it was.
type walk struct {
	posts  []api.Post
	at     int
	blocks map[int]bool
}

func walkOf(l []api.Post) *walk {
	w := &walk{posts: l, blocks: map[int]bool{}}
	w.goTo(0)
	return w
}

func (w *walk) goTo(at int) bool {
	w.at = at
	if at >= len(w.posts) {
		return false
	}
	w.blocks[at/inBlock] = true
	return true
}

func (w *walk) next() bool { return w.goTo(min(w.at+1, len(w.posts))) }

func (w *walk) skip(doc int64) bool {
	at := w.at
	for at < len(w.posts) && w.posts[at].Doc < doc {
		at++
	}
	return w.goTo(at)
}

// wantAt holds where a cursor stands, and how much it has read, against the walk beside it.
func (w *walk) wantAt(t *testing.T, what string, c *cursor.Cursor) {
	t.Helper()
	var p api.Post
	is := w.at < len(w.posts)
	if is {
		p = w.posts[w.at]
	}
	if doc, has := c.Doc(); doc != p.Doc || has != is {
		t.Fatalf("%s, at %d of %d: document %d, %t, want %d, %t", what, w.at, len(w.posts), doc, has, p.Doc, is)
	}
	if l := c.Spots(); !slices.Equal(l, p.Spots) {
		t.Fatalf("%s, at %d of %d: spots %v, want %v", what, w.at, len(w.posts), l, p.Spots)
	}
	if c.Reads() != len(w.blocks) {
		t.Fatalf("%s, at %d of %d: %d blocks read, want %d", what, w.at, len(w.posts), c.Reads(), len(w.blocks))
	}
}

func (w *walk) wantNext(t *testing.T, what string, c *cursor.Cursor) {
	t.Helper()
	if is, want := c.Next(), w.next(); is != want {
		t.Fatalf("%s: Next %t, want %t", what, is, want)
	}
	w.wantAt(t, what+": Next", c)
}

func (w *walk) wantSkip(t *testing.T, what string, c *cursor.Cursor, doc int64) {
	t.Helper()
	if is, want := c.Skip(doc), w.skip(doc); is != want {
		t.Fatalf("%s: Skip(%d) %t, want %t", what, doc, is, want)
	}
	w.wantAt(t, what+": Skip", c)
}

// written is the bytes of valid postings.
func written(t *testing.T, l []api.Post) []byte {
	t.Helper()
	b, e := post.Put(l)
	if e != api.OK {
		t.Fatalf("Put: error %d", e)
	}
	return b
}

func wantNew(t *testing.T, b []byte) *cursor.Cursor {
	t.Helper()
	c, e := cursor.New(b)
	if c == nil || e != api.OK {
		t.Fatalf("New: %t, error %d", c != nil, e)
	}
	return c
}

// both are a cursor, and a walk beside it.
func both(t *testing.T, l []api.Post) (*cursor.Cursor, *walk) {
	t.Helper()
	c, w := wantNew(t, written(t, l)), walkOf(l)
	w.wantAt(t, "New", c)
	return c, w
}

// dice are numbers that look like chance and are the same each time.
type dice uint64

func (x *dice) next() uint64 {
	*x = *x*6364136223846793005 + 1442695040888963407
	return uint64(*x) ^ uint64(*x)>>29
}

func (x *dice) roll(n int) int { return int(x.next() >> 33 % uint64(n)) }

// rising are n integers at most, close together or far apart.
func (x *dice) rising(n int, most int64) []int64 {
	var l []int64
	width := x.roll(64)
	for range n {
		if i := int64(x.next() >> 1 >> width); i <= most {
			l = append(l, i)
		}
	}
	slices.Sort(l)
	return slices.Compact(l)
}

func (x *dice) spots(n int) []api.Spot {
	pos, at := x.rising(n, math.MaxInt64), x.rising(n, math.MaxInt64)
	l := []api.Spot{{Pos: pos[0], At: at[0]}}
	for i := 1; i < min(len(pos), len(at)); i++ {
		l = append(l, api.Spot{Pos: pos[i], At: at[i]})
	}
	return l
}

// posts are n documents, close together or far apart.
func (x *dice) posts(n int) []api.Post {
	var l []api.Post
	doc := int64(x.roll(3) * x.roll(1000))
	far := 1 + x.roll(200)
	for range n {
		l = append(l, api.Post{Doc: doc, Spots: x.spots(1 + x.roll(4))})
		doc += int64(1 + x.roll(far))
	}
	return l
}

// one is a posting with one spot.
func one(doc, pos, at int64) api.Post {
	return api.Post{Doc: doc, Spots: []api.Spot{{Pos: pos, At: at}}}
}

// row is n documents, so far apart, with one spot each.
func row(n int, first, gap int64) []api.Post {
	var l []api.Post
	for i := range int64(n) {
		l = append(l, one(first+i*gap, i, 2*i))
	}
	return l
}

// dense is n spots without a gap.
func dense(n int) []api.Spot {
	var l []api.Spot
	for i := range int64(n) {
		l = append(l, api.Spot{Pos: i, At: i})
	}
	return l
}

// samples are valid postings: few and many, close and far apart, up to the limits.
func samples() [][]api.Post {
	l := [][]api.Post{
		nil, {one(0, 0, 0)}, {one(3, 2, 5)}, {one(maxDocs, 0, 0)}, {one(0, math.MaxInt64, math.MaxInt64), one(maxDocs, 0, 0)},
		{one(maxDocs-1, 1, 0), one(maxDocs, 0, 1)},
		{{Doc: 7, Spots: dense(maxSpots)}, {Doc: 9, Spots: dense(300)}},
		append(row(16, 0, 1), one(maxDocs, 0, 0)), // a second group that is far away
		append(row(4, 0, 1), row(4, maxDocs-3, 1)...),
		append(row(15, 5, 1), row(17, 1<<31, 1)...),
	}
	for n := range 70 {
		l = append(l, row(n, 0, 1), row(n, 1, 3), row(n, 130, 129))
	}
	x := dice(1)
	for i := range 60 {
		l = append(l, x.posts(1+i))
	}
	return l
}

// TestP101Known is the chapter's example, and what can be told by hand.
func TestP101Known(t *testing.T) {
	c := wantNew(t, written(t, []api.Post{one(1, 2, 3), one(5, 4, 6), one(9, 7, 8)}))
	for _, s := range []struct {
		what string
		step func() bool
		doc  int64
		spot []api.Spot
	}{
		{"New", func() bool { return true }, 1, []api.Spot{{Pos: 2, At: 3}}},
		{"Skip(3)", func() bool { return c.Skip(3) }, 5, []api.Spot{{Pos: 4, At: 6}}},
		{"Skip(2)", func() bool { return c.Skip(2) }, 5, []api.Spot{{Pos: 4, At: 6}}},
		{"Next()", c.Next, 9, []api.Spot{{Pos: 7, At: 8}}},
		{"Skip(9)", func() bool { return c.Skip(9) }, 9, []api.Spot{{Pos: 7, At: 8}}},
	} {
		if !s.step() {
			t.Errorf("%s: false", s.what)
		}
		if doc, is := c.Doc(); doc != s.doc || !is || !slices.Equal(c.Spots(), s.spot) || c.Reads() != 1 {
			t.Errorf("%s: document %d, %t, spots %v, %d reads", s.what, doc, is, c.Spots(), c.Reads())
		}
	}
	if c.Skip(10) || c.Next() || c.Skip(0) {
		t.Error("after all postings it is at one")
	}
	if doc, is := c.Doc(); doc != 0 || is || len(c.Spots()) != 0 || c.Reads() != 1 {
		t.Errorf("after all: document %d, %t, spots %v, %d reads", doc, is, c.Spots(), c.Reads())
	}
}

// TestP101Bytes is a cursor of bytes that are written by hand.
func TestP101Bytes(t *testing.T) {
	b := "\x05" + "\x09\x1d" +
		"\x06\x14" + "\x00\x01\x00\x01\x00" + "\x01\x01\x00\x01\x00" + "\x00\x01\x00\x01\x00" + "\x02\x01\x00\x01\x00" +
		"\x02\x05" + "\x02\x01\x08\x01\x07"
	c, w := wantNew(t, []byte(b)), walkOf([]api.Post{one(0, 0, 0), one(2, 0, 0), one(3, 0, 0), one(6, 0, 0), one(9, 8, 7)})
	for w.at < len(w.posts) {
		w.wantAt(t, "by hand", c)
		w.wantNext(t, "by hand", c)
	}
	c, w = wantNew(t, []byte(b)), walkOf(w.posts)
	w.wantSkip(t, "by hand", c, 7)
}

// TestP101None: of no postings, a cursor is after all of them, and there is no block to read.
func TestP101None(t *testing.T) {
	c, w := both(t, nil)
	for range 3 {
		for _, doc := range []int64{0, 1, -1, math.MaxInt64, math.MinInt64} {
			w.wantSkip(t, "none", c, doc)
			w.wantNext(t, "none", c)
		}
	}
}

// TestP101Next goes through all postings, and then stays after them.
func TestP101Next(t *testing.T) {
	for _, l := range samples() {
		c, w := both(t, l)
		for range len(l) + 3 {
			w.wantNext(t, "next", c)
		}
		if c.Reads() != (len(l)+inBlock-1)/inBlock {
			t.Errorf("%d blocks read of %d postings", c.Reads(), len(l))
		}
	}
}

// TestP101Wrong: New has the error of post.Get, and no cursor beside it.
func TestP101Wrong(t *testing.T) {
	wrong := func(b []byte) {
		t.Helper()
		_, want := post.Get(b)
		if c, e := cursor.New(b); e != want || (c == nil) != (want != api.OK) {
			t.Errorf("% x: %t, error %d, want %d", b[:min(len(b), 50)], c != nil, e, want)
		}
	}
	for _, s := range []string{"", "\x80", "\x00\x00", "\x01", "\x01\x00", "\x81\x20", "\x01\x00\x05\x00\x03\x00\x00\x00", "\x01\x01\x07\x00\x05\x00\x01\x00\x01\x00"} {
		if c, e := cursor.New([]byte(s)); c != nil || e != api.ErrCorrupt {
			t.Errorf("% x: %t, error %d", s, c != nil, e)
		}
	}
	if c, e := cursor.New(nil); c != nil || e != api.ErrCorrupt {
		t.Errorf("nil: %t, error %d", c != nil, e)
	}
	wrong(bytes.Repeat([]byte{0xff}, 1<<20))
	wrong(bytes.Repeat([]byte{0}, 1<<20))
	x := dice(2)
	for _, l := range [][]api.Post{row(1, 3, 1), row(6, 0, 3), row(18, 2, 150), row(35, 1, 1)} {
		b := written(t, l)
		wrong(append(b[:len(b):len(b)], 0))
		for at := range b {
			wrong(b[:at])
			wrong(slices.Delete(slices.Clone(b), at, at+1))
			wrong(slices.Insert(slices.Clone(b), at, byte(x.roll(3))))
			for c := range 256 {
				changed := slices.Clone(b)
				changed[at] = byte(c)
				wrong(changed)
			}
		}
	}
}

// TestP1Read: whatever bytes New takes, the cursor goes through the postings that they are.
func TestP1Read(t *testing.T) {
	b := written(t, row(18, 0, 1))
	x := dice(3)
	for range 20000 {
		changed := slices.Clone(b)
		for range 1 + x.roll(3) {
			changed[x.roll(len(b))] = byte(x.roll(256))
		}
		l, want := post.Get(changed)
		c, e := cursor.New(changed)
		if e != want {
			t.Fatalf("% x: error %d, want %d", changed, e, want)
		}
		if e == api.OK {
			w := walkOf(l)
			w.wantAt(t, "changed", c)
			w.wantSkip(t, "changed", c, int64(x.roll(20)))
			w.wantNext(t, "changed", c)
		}
	}
}

// TestP101Limits: as many postings, and as many spots, as there may be.
func TestP101Limits(t *testing.T) {
	l := row(maxPosts, 0, maxDocs/(maxPosts-1))
	for _, i := range []int{0, 5, maxPosts - 1} {
		l[i].Spots = dense(maxSpots)
	}
	l[maxPosts-1].Doc = maxDocs
	c, w := both(t, l)
	for range l {
		w.wantNext(t, "most", c)
	}
	for _, doc := range []int64{maxDocs, maxDocs - 1, 1 << 31, l[maxPosts-2].Doc, l[maxPosts-2].Doc + 1} {
		c, w = both(t, l)
		w.wantSkip(t, "most", c, doc)
		w.wantNext(t, "most", c)
	}
	c, w = both(t, l)
	w.wantSkip(t, "behind all", c, maxDocs+1)
	w.wantSkip(t, "behind all", c, 0)
}

// TestP101Back: neither a document that was passed, nor a number that is none, leads back.
func TestP101Back(t *testing.T) {
	l := row(40, 10, 2)
	c, w := both(t, l)
	for _, doc := range []int64{-1, 0, math.MinInt64, 9, 10, 11, 10, 0, 12, 40, 12, 39, math.MinInt64, 88, 88, 87, 10, 89, 88, 0, math.MaxInt64, 0, 88, 10, math.MinInt64} {
		w.wantSkip(t, "back", c, doc)
	}
}

// TestP102: Skip stands where Next, again and again, does, from each posting to each number around each other one.
func TestP102(t *testing.T) {
	for _, l := range [][]api.Post{row(1, 0, 1), row(5, 3, 1), row(17, 0, 1), row(33, 1, 3), append(row(18, 0, 2), row(16, 1000, 1)...)} {
		b := written(t, l)
		for from := range len(l) + 1 {
			for to := -1; to <= len(l); to++ {
				for near := int64(-1); near <= 1; near++ {
					doc := l[max(0, min(to, len(l)-1))].Doc + near
					if to < 0 {
						doc = -near
					}
					wantSame(t, b, from, doc)
				}
			}
		}
	}
}

// wantSame goes so many postings on, and then to a document, by Skip and by Next.
func wantSame(t *testing.T, b []byte, from int, doc int64) {
	t.Helper()
	c, d := wantNew(t, b), wantNew(t, b)
	for range from {
		c.Next()
		d.Next()
	}
	is := c.Skip(doc)
	at, more := d.Doc()
	for more && at < doc {
		d.Next()
		at, more = d.Doc()
	}
	found, has := c.Doc()
	if found != at || has != more || is != more || !slices.Equal(c.Spots(), d.Spots()) {
		t.Fatalf("from %d, Skip(%d): %d, %t, %t, %v, want %d, %t, %v", from, doc, found, has, is, c.Spots(), at, more, d.Spots())
	}
	if c.Reads() > d.Reads() {
		t.Fatalf("from %d, Skip(%d): %d blocks read, by Next %d", from, doc, c.Reads(), d.Reads())
	}
}

// TestP102Any: calls of all kinds, in any order.
func TestP102Any(t *testing.T) {
	x := dice(4)
	for _, l := range samples() {
		b := written(t, l)
		for range 12 {
			c, w := wantNew(t, b), walkOf(l)
			near := 1 + x.roll(1+2*len(l))
			for range 30 {
				if x.roll(3) == 0 {
					w.wantNext(t, "any", c)
					continue
				}
				doc := int64(x.next())
				if w.at < len(l) && x.roll(20) > 0 {
					doc = l[min(w.at+x.roll(near), len(l)-1)].Doc + int64(x.roll(3)-1)
				}
				w.wantSkip(t, "any", c, doc)
			}
		}
	}
}

// TestP103Known: how many blocks are read, as can be told by hand.
func TestP103Known(t *testing.T) {
	b := written(t, row(100, 0, 10)) // blocks end at 30, 70, .., groups at 150, 310, ..
	for _, s := range []struct {
		skips []int64
		reads int
	}{
		{nil, 1}, {[]int64{0}, 1}, {[]int64{30}, 1}, {[]int64{31}, 2}, {[]int64{40}, 2}, {[]int64{70}, 2}, {[]int64{71}, 2},
		{[]int64{150}, 2}, {[]int64{151}, 2}, {[]int64{160}, 2}, {[]int64{310}, 2}, {[]int64{311}, 2}, {[]int64{990}, 2}, {[]int64{960}, 2},
		{[]int64{991}, 1}, {[]int64{math.MaxInt64}, 1}, {[]int64{math.MaxInt64, 0, 5}, 1},
		{[]int64{40, 50, 60, 70}, 2}, {[]int64{40, 80}, 3}, {[]int64{40, 150, 160}, 4}, {[]int64{500, 990, 5, 991}, 3},
		{[]int64{160, 170, 180, 190, 200}, 3},
	} {
		c := wantNew(t, b)
		for _, doc := range s.skips {
			c.Skip(doc)
		}
		if c.Reads() != s.reads {
			t.Errorf("%v: %d blocks read, want %d", s.skips, c.Reads(), s.reads)
		}
	}
}

// TestP103Ends: the block that ends with a document is read for it, and not the next one; the one behind it for a greater one.
func TestP103Ends(t *testing.T) {
	for n := 1; n < 50; n++ {
		l := row(n, 5, 4)
		for i := inBlock - 1; i < n; i += inBlock {
			for _, doc := range []int64{l[i].Doc - 1, l[i].Doc, l[i].Doc + 1} {
				c, w := both(t, l)
				w.wantSkip(t, "end", c, doc)
				w.wantNext(t, "end", c)
			}
		}
	}
}

// TestP103Unread: what is passed costs nothing, however many spots are in it. (A block that is read needs memory for them.)
func TestP103Unread(t *testing.T) {
	l := row(3*inGroup, 0, 1)
	for i := range l {
		l[i].Spots = dense(300)
	}
	b := written(t, l)
	near := memory(t, b, inBlock)
	for doc := range l[inBlock:] {
		if far := memory(t, b, int64(inBlock+doc)); far > near+20 {
			t.Errorf("Skip(%d) takes memory %v times, and %v to the next block", inBlock+doc, far, near)
		}
	}
	if after := memory(t, b, int64(len(l))); after > 20 {
		t.Errorf("to go after all takes memory %v times", after)
	}
}

// memory is how many times a Skip takes some.
func memory(t *testing.T, b []byte, doc int64) float64 {
	t.Helper()
	l := []*cursor.Cursor{wantNew(t, b), wantNew(t, b)} // the first one is to warm up
	return testing.AllocsPerRun(1, func() {
		l[0].Skip(doc)
		l = l[1:]
	})
}

// TestP3TakesNothing: the bytes are not changed, and what becomes of them later is not seen.
func TestP3TakesNothing(t *testing.T) {
	for _, l := range samples() {
		want := written(t, l)
		room := slices.Concat([]byte{9}, want, []byte{9, 9})
		b := room[1 : len(room)-2]
		c, w := wantNew(t, b), walkOf(l)
		w.wantSkip(t, "whole", c, 3)
		w.wantNext(t, "whole", c)
		if !bytes.Equal(room, slices.Concat([]byte{9}, want, []byte{9, 9})) {
			t.Fatalf("what was passed: % x", room)
		}
		clear(room)
		for range 2 {
			w.wantAt(t, "cleared", c)
			w.wantNext(t, "cleared", c)
			w.wantSkip(t, "cleared", c, 40)
		}
		for w.at < len(l) {
			w.wantNext(t, "cleared", c)
		}
	}
}

// TestP3IsNew: spots that were returned are the caller's own, with all spare capacity.
func TestP3IsNew(t *testing.T) {
	l := []api.Post{{Doc: 1, Spots: dense(3)}, {Doc: 2, Spots: dense(9)}, {Doc: 3, Spots: dense(1)}, one(4, 4, 4), {Doc: 5, Spots: dense(5)}}
	c, w := both(t, l)
	for range l {
		first := c.Spots()
		spoilt := c.Spots()
		spoilt = spoilt[:cap(spoilt)]
		for i := range spoilt {
			spoilt[i] = api.Spot{Pos: 77, At: 77}
		}
		w.wantAt(t, "spoilt", c)
		if !slices.Equal(first, l[w.at].Spots) {
			t.Errorf("the first answer changed to %v", first)
		}
		w.wantNext(t, "spoilt", c)
		if !slices.Equal(first, l[w.at-1].Spots) {
			t.Errorf("the first answer changed to %v", first)
		}
	}
}

// TestP3Apart: cursors of the same bytes have nothing to do with one another, and asking moves nothing.
func TestP3Apart(t *testing.T) {
	l := row(50, 0, 2)
	b := written(t, l)
	c, v := wantNew(t, b), walkOf(l)
	d, w := wantNew(t, b), walkOf(l)
	for range 20 {
		v.wantNext(t, "one", c)
		w.wantAt(t, "another one", d)
		w.wantAt(t, "once more", d)
	}
	w.wantSkip(t, "another one", d, 7)
	v.wantAt(t, "one", c)
	w.wantSkip(t, "another one", d, 200)
	v.wantNext(t, "one", c)
}

// TestP3Reading: many may make cursors of the same bytes at the same time, and many may ask one.
func TestP3Reading(t *testing.T) {
	l := row(40, 0, 9)
	b := written(t, l)
	shared := wantNew(t, b)
	var all sync.WaitGroup
	for range 8 {
		all.Go(func() {
			c, e := cursor.New(b)
			if e != api.OK {
				t.Errorf("error %d", e)
				return
			}
			for i := range l {
				doc, _ := c.Doc()
				same, _ := shared.Doc()
				if doc != l[i].Doc || same != 0 || len(shared.Spots()) != 1 || shared.Reads() != 1 {
					t.Errorf("%d: document %d, %d", i, doc, same)
				}
				c.Next()
			}
		})
	}
	all.Wait()
}
