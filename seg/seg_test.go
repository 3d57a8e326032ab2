package seg_test

import (
	"bytes"
	"math"
	"slices"
	"strings"
	"testing"

	"verbatim/api"
	"verbatim/bpe"
	"verbatim/frame"
	"verbatim/leb"
	"verbatim/post"
	"verbatim/seg"
	"verbatim/vocab"
)

const (
	maxFile   = 1 << 18
	maxDoc    = 4096
	maxKey    = 32
	maxInSeg  = 64
	maxTokens = 512
)

// dice are numbers that look like chance and are the same each time.
type dice uint64

func (x *dice) next() uint64 {
	*x = *x*6364136223846793005 + 1442695040888963407
	return uint64(*x) ^ uint64(*x)>>29
}

func (x *dice) roll(n int) int { return int(x.next() >> 33 % uint64(n)) }

// text is up to n bytes, of a few kinds.
func (x *dice) text(n int) string {
	b := make([]byte, x.roll(n+1))
	for i := range b {
		b[i] = "abcd\x00\xff"[x.roll(6)]
	}
	return string(b)
}

// docs are up to n valid documents.
func (x *dice) docs(n, long int) []api.Doc {
	var l []api.Doc
	for i := range x.roll(n + 1) {
		l = append(l, api.Doc{Key: string(rune('A'+i)) + x.text(3), Text: x.text(long)})
	}
	return l
}

// coder is one of a vocabulary that is built of pairs.
type coder struct {
	*bpe.Coder
	tokens [][]byte
}

func newCoder(t *testing.T, pairs ...api.Pair) coder {
	t.Helper()
	v, e := vocab.Build(pairs)
	c := bpe.New(v)
	if e != api.OK || c == nil {
		t.Fatal("no vocabulary", e)
	}
	return coder{c, v.Tokens}
}

// abc has tokens 256 ab, 257 abc, 258 cd.
func abc(t *testing.T) coder {
	return newCoder(t, api.Pair{A: 'a', B: 'b'}, api.Pair{A: 256, B: 'c'}, api.Pair{A: 'c', B: 'd'})
}

// twice has tokens of 2, 4, 8 and 16 a.
func twice(t *testing.T) coder {
	return newCoder(t, api.Pair{A: 'a', B: 'a'}, api.Pair{A: 256, B: 256}, api.Pair{A: 257, B: 257}, api.Pair{A: 258, B: 258})
}

// full has as many tokens as there may be.
func full(t *testing.T) coder {
	var pairs []api.Pair
	for i := range maxTokens - 256 {
		pairs = append(pairs, api.Pair{A: 'a', B: i})
	}
	return newCoder(t, pairs...)
}

func coders(t *testing.T) []coder {
	return []coder{newCoder(t), abc(t), twice(t), full(t)}
}

// posts is the chapter's words: of each token, in which documents it stands, and where.
func (c coder) posts(t *testing.T, l []api.Doc) [maxTokens][]api.Post {
	t.Helper()
	var posts [maxTokens][]api.Post
	for i, d := range l {
		tokens, e := c.Encode([]byte(d.Text))
		if e != api.OK {
			t.Fatal(e)
		}
		at := 0
		for pos, token := range tokens {
			of := &posts[token]
			if n := len(*of); n == 0 || (*of)[n-1].Doc < int64(i) {
				*of = append(*of, api.Post{Doc: int64(i)})
			}
			last := &(*of)[len(*of)-1]
			last.Spots = append(last.Spots, api.Spot{Pos: int64(pos), At: int64(at)})
			at += len(c.tokens[token])
		}
	}
	return posts
}

func num(n int) []byte { return leb.Put(uint64(n)) }

// head is what the first frame has.
func head(docs, terms int) []byte { return append(num(docs), num(terms)...) }

// docFrame is what a document's frame has.
func docFrame(d api.Doc) []byte {
	return slices.Concat(num(len(d.Key)), []byte(d.Key), []byte(d.Text))
}

// termFrame is what a token's frame has.
func termFrame(t *testing.T, token int, l []api.Post) []byte {
	t.Helper()
	b, e := post.Put(l)
	if e != api.OK {
		t.Fatal(e)
	}
	return slices.Concat(num(token), b)
}

// frames is the chapter's words: what stands in the frames of a segment.
func (c coder) frames(t *testing.T, l []api.Doc) [][]byte {
	t.Helper()
	var docs, terms [][]byte
	for _, d := range l {
		docs = append(docs, docFrame(d))
	}
	for token, posts := range c.posts(t, l) {
		if len(posts) > 0 {
			terms = append(terms, termFrame(t, token, posts))
		}
	}
	return slices.Concat([][]byte{head(len(docs), len(terms))}, docs, terms)
}

// join is the bytes of frames.
func join(l ...[]byte) []byte {
	var b []byte
	for _, content := range l {
		b = append(b, frame.Put(content)...)
	}
	return b
}

// plain is a segment by the chapter's words.
type plain struct {
	docs  []api.Doc
	terms []int
	posts [][]api.Post
}

// openPlain is the chapter's words: what bytes are a segment of, and whether they are one.
func openPlain(b []byte) (plain, bool) {
	l, e := frame.All(b)
	if e != api.OK || len(l) == 0 {
		return plain{}, false
	}
	docs, n, e := leb.Get(l[0])
	terms, m, f := leb.Get(l[0][n:])
	if e != api.OK || f != api.OK || n+m < len(l[0]) || docs > maxInSeg || terms > maxTokens || int(docs+terms) != len(l)-1 {
		return plain{}, false
	}
	var p plain
	for _, b := range l[1 : 1+docs] {
		long, n, e := leb.Get(b)
		if e != api.OK || long < 1 || long > maxKey || uint64(len(b)-n) < long {
			return plain{}, false
		}
		d := api.Doc{Key: string(b[n : n+int(long)]), Text: string(b[n+int(long):])}
		if len(d.Text) > maxDoc || slices.ContainsFunc(p.docs, func(other api.Doc) bool { return other.Key == d.Key }) {
			return plain{}, false
		}
		p.docs = append(p.docs, d)
	}
	for _, b := range l[1+docs:] {
		token, n, e := leb.Get(b)
		if e != api.OK || token >= maxTokens || len(p.terms) > 0 && int(token) <= p.terms[len(p.terms)-1] {
			return plain{}, false
		}
		posts, e := post.Get(b[n:])
		if e != api.OK || len(posts) == 0 || slices.ContainsFunc(posts, func(p api.Post) bool { return p.Doc >= int64(docs) }) {
			return plain{}, false
		}
		p.terms = append(p.terms, int(token))
		p.posts = append(p.posts, posts)
	}
	return p, true
}

// gone is what a cursor goes through.
func gone(t *testing.T, s *seg.Seg, token int) []api.Post {
	t.Helper()
	var l []api.Post
	c := s.Cursor(token)
	if c == nil {
		return nil
	}
	for {
		doc, is := c.Doc()
		if !is {
			return l
		}
		l = append(l, api.Post{Doc: doc, Spots: c.Spots()})
		c.Next()
	}
}

// samePosts tells whether postings are the same ones.
func samePosts(l, m []api.Post) bool {
	return slices.EqualFunc(l, m, func(p, q api.Post) bool {
		return p.Doc == q.Doc && slices.Equal(p.Spots, q.Spots)
	})
}

// wantSeg asks everything of a segment.
func wantSeg(t *testing.T, what string, s *seg.Seg, want plain) {
	t.Helper()
	if s == nil {
		t.Fatalf("%s: no segment", what)
	}
	n := len(want.docs)
	if got := s.Many(); got != n {
		t.Errorf("%s: Many() = %d, want %d", what, got, n)
	}
	for i, d := range want.docs {
		if got, is := s.Doc(int64(i)); got != d || !is {
			t.Errorf("%s: Doc(%d) = %q, %t, want %q", what, i, got, is, d)
		}
	}
	for _, i := range []int64{-1, int64(n), int64(n) + 1, math.MinInt64, math.MaxInt64, 1 << 32, -1 << 32} {
		if got, is := s.Doc(i); got != (api.Doc{}) || is {
			t.Errorf("%s: Doc(%d) = %q, %t, want none", what, i, got, is)
		}
	}
	if got := s.Terms(); !slices.Equal(got, want.terms) {
		t.Errorf("%s: Terms() = %d, want %d", what, got, want.terms)
	}
	for i, token := range want.terms {
		if got := gone(t, s, token); !samePosts(got, want.posts[i]) {
			t.Errorf("%s: the postings of %d are %d, want %d", what, token, got, want.posts[i])
		}
	}
	for token := -1; token <= maxTokens; token++ {
		if got := s.Cursor(token) != nil; got != slices.Contains(want.terms, token) {
			t.Errorf("%s: there is a cursor of %d: %t", what, token, got)
		}
	}
	for _, token := range []int{math.MinInt, math.MaxInt, 1 << 32, 1<<32 + 'a'} {
		if s.Cursor(token) != nil {
			t.Errorf("%s: there is a cursor of %d", what, token)
		}
	}
}

// wantOpen holds Open against the chapter's words.
func wantOpen(t *testing.T, what string, b []byte) bool {
	t.Helper()
	want, is := openPlain(b)
	s, e := seg.Open(b)
	if !is {
		if s != nil || e != api.ErrCorrupt {
			t.Errorf("%s: there is a segment: %t, error %d, want ErrCorrupt", what, s != nil, e)
		}
		return false
	}
	if e != api.OK {
		t.Fatalf("%s: error %d, want a segment", what, e)
	}
	wantSeg(t, what, s, want)
	return true
}

// wantCorrupt is for bytes of which the test knows that they are no segment.
func wantCorrupt(t *testing.T, what string, b []byte) {
	t.Helper()
	if wantOpen(t, what, b) {
		t.Errorf("%s: there is a segment", what)
	}
}

// wantOpened is for bytes of which the test knows that they are a segment.
func wantOpened(t *testing.T, what string, b []byte) {
	t.Helper()
	if !wantOpen(t, what, b) {
		t.Errorf("%s: there is no segment", what)
	}
}

// built is a segment's bytes, held against the chapter's words.
func built(t *testing.T, what string, c coder, l []api.Doc) []byte {
	t.Helper()
	b, e := seg.Build(c.Coder, l)
	if want := join(c.frames(t, l)...); e != api.OK || !bytes.Equal(b, want) {
		t.Fatalf("%s: %d bytes, error %d, want %d bytes", what, len(b), e, len(want))
	}
	return b
}

// opened is the segment of bytes.
func opened(t *testing.T, b []byte) *seg.Seg {
	t.Helper()
	s, e := seg.Open(b)
	if e != api.OK || s == nil {
		t.Fatal("no segment", e)
	}
	return s
}

// samples are documents of each kind.
func samples() [][]api.Doc {
	return [][]api.Doc{
		nil,
		{{Key: "a"}},
		{{Key: "\x00", Text: "\x00"}},
		{{Key: "x", Text: "abcab"}, {Key: "y"}, {Key: "z", Text: "ab\x00"}},
		{{Key: "z", Text: "same"}, {Key: "y", Text: "same"}, {Key: "x", Text: "same"}},
		{{Key: "a", Text: "a"}, {Key: "aa", Text: "aa"}, {Key: "aaa", Text: "aaa"}},
		{{Key: "k", Text: "aaaaaaaaaaaaaaaaaaaaaaaaaaaaaaaaaaaa"}, {Key: "K", Text: "aab abc cd"}},
		{{Key: strings.Repeat("k", maxKey), Text: "\xff\xfe"}, {Key: strings.Repeat("k", maxKey-1), Text: "ä"}},
	}
}

func TestP131BuildKnown(t *testing.T) {
	for _, x := range []struct {
		docs   []api.Doc
		frames []string
	}{
		{nil, []string{"\x00\x00"}},
		{[]api.Doc{{Key: "key"}}, []string{"\x01\x00", "\x03key"}},
		{[]api.Doc{{Key: "k", Text: "b"}}, []string{"\x01\x01", "\x01kb", "\x62\x01\x00\x07\x00\x05\x00\x01\x00\x01\x00"}},
		{[]api.Doc{{Key: "k"}, {Key: "l", Text: "cab"}}, []string{"\x02\x02", "\x01k", "\x01lcab",
			"\x63\x01\x01\x07\x01\x05\x01\x01\x00\x01\x00",
			"\x80\x02\x01\x01\x07\x01\x05\x01\x01\x01\x01\x01"}},
	} {
		var want []byte
		for _, content := range x.frames {
			want = append(want, frame.Put([]byte(content))...)
		}
		b, e := seg.Build(abc(t).Coder, x.docs)
		if e != api.OK || !bytes.Equal(b, want) {
			t.Errorf("%q: % x, error %d, want % x", x.docs, b, e, want)
		}
		built(t, "known", abc(t), x.docs)
		wantOpened(t, "known", want)
	}
	if b, _ := seg.Build(abc(t).Coder, []api.Doc{}); !bytes.Equal(b, frame.Put([]byte{0, 0})) {
		t.Errorf("no documents are % x", b)
	}
}

func TestP131BuildAll(t *testing.T) {
	x := dice(1)
	for _, c := range coders(t) {
		for _, l := range samples() {
			wantOpened(t, "samples", built(t, "samples", c, l))
		}
		for range 30 {
			wantOpened(t, "chance", built(t, "chance", c, x.docs(6, 40)))
		}
	}
}

// many is n documents.
func many(n int, text string) []api.Doc {
	var l []api.Doc
	for i := range n {
		l = append(l, api.Doc{Key: string([]byte{'k', byte(i)}), Text: text})
	}
	return l
}

func TestP131BuildLimits(t *testing.T) {
	long := api.Doc{Key: strings.Repeat("k", maxKey), Text: strings.Repeat("abcd", maxDoc/4)}
	for _, l := range [][]api.Doc{many(maxInSeg, ""), many(maxInSeg, "abc"), {long}, append(many(maxInSeg-1, "cd"), long), {{Key: "k", Text: strings.Repeat("\x00", maxDoc)}}} {
		for _, c := range coders(t) {
			wantOpened(t, "limits", built(t, "limits", c, l))
		}
	}
	var text []byte
	for i := range maxTokens - 256 { // each token that a merge makes
		text = append(text, 'a', byte(i))
	}
	b := built(t, "all tokens", full(t), []api.Doc{{Key: "k", Text: string(text)}})
	if l := opened(t, b).Terms(); len(l) != 256 || l[255] != maxTokens-1 {
		t.Errorf("the terms are %d", l)
	}
}

// notValid are documents that are not.
func notValid() [][]api.Doc {
	l := [][]api.Doc{many(maxInSeg+1, ""), many(250, "a"), {{Key: "a"}, {Key: "a"}}, {{Key: "a"}, {Key: "b"}, {Key: "a", Text: "c"}}}
	for _, bad := range []api.Doc{
		{},
		{Text: "a"},
		{Key: strings.Repeat("a", maxKey+1)},
		{Key: strings.Repeat("a", 300)},
		{Key: "a", Text: strings.Repeat("a", maxDoc+1)},
		{Key: "a", Text: strings.Repeat("a", maxFile)},
		{Key: "a", Text: strings.Repeat("a", 1<<20)},
		{Key: "kk", Text: "there is one already"},
	} {
		with := []api.Doc{{Key: "kk", Text: "abc"}, {Key: "ll", Text: ""}}
		for i := range len(with) + 1 {
			l = append(l, slices.Insert(slices.Clone(with), i, bad))
		}
	}
	return l
}

func TestP131BuildWrong(t *testing.T) {
	for i, l := range notValid() {
		for _, c := range []*bpe.Coder{abc(t).Coder, nil} {
			if b, e := seg.Build(c, l); b != nil || e != api.ErrArg {
				t.Errorf("%d: %d bytes, error %d, want ErrArg", i, len(b), e)
			}
		}
	}
	for i, l := range samples() {
		if b, e := seg.Build(nil, l); b != nil || e != api.ErrArg {
			t.Errorf("no coder, %d: %d bytes, error %d, want ErrArg", i, len(b), e)
		}
	}
}

func TestP131Seg(t *testing.T) {
	docs := []api.Doc{{Key: "x", Text: "abcab"}, {Key: "y"}, {Key: "z", Text: "ab\x00"}}
	s := opened(t, built(t, "known", abc(t), docs))
	wantSeg(t, "known", s, plain{docs, []int{0, 256, 257}, [][]api.Post{
		{{Doc: 2, Spots: []api.Spot{{Pos: 1, At: 2}}}},
		{{Doc: 0, Spots: []api.Spot{{Pos: 1, At: 3}}}, {Doc: 2, Spots: []api.Spot{{Pos: 0, At: 0}}}},
		{{Doc: 0, Spots: []api.Spot{{Pos: 0, At: 0}}}},
	}})
	s = opened(t, frame.Put([]byte{0, 0}))
	wantSeg(t, "none", s, plain{})
}

// TestP131CursorAtFirst: a new cursor has read one block, whatever others have done.
func TestP131CursorAtFirst(t *testing.T) {
	s := opened(t, built(t, "many", abc(t), many(40, "ab")))
	for range 3 {
		c := s.Cursor(256)
		doc, is := c.Doc()
		if doc != 0 || !is || c.Reads() != 1 {
			t.Errorf("it is at %d, %t, and has read %d blocks", doc, is, c.Reads())
		}
		if !c.Skip(30) || c.Reads() != 2 {
			t.Errorf("it has read %d blocks", c.Reads())
		}
	}
}

// spots is n of them.
func spots(n int) []api.Spot {
	var l []api.Spot
	for i := range n {
		l = append(l, api.Spot{Pos: int64(i), At: int64(2 * i)})
	}
	return l
}

// posts are a posting of each of some documents.
func posts(docs ...int64) []api.Post {
	var l []api.Post
	for _, doc := range docs {
		l = append(l, api.Post{Doc: doc, Spots: spots(1)})
	}
	return l
}

// TestP131OpenStrange has what Build doesn't make, and is a segment still.
func TestP131OpenStrange(t *testing.T) {
	a, b := []byte("\x01a"), []byte("\x01bc")
	term := func(token int, docs ...int64) []byte { return termFrame(t, token, posts(docs...)) }
	for what, l := range map[string][][]byte{
		"nothing":                        {head(0, 0)},
		"no postings":                    {head(1, 0), b},
		"postings of other bytes":        {head(2, 1), a, b, term('q', 0, 1)},
		"the last token":                 {head(1, 1), a, term(511, 0)},
		"tokens apart":                   {head(2, 4), a, b, term(0, 0), term(1, 1), term(300, 0, 1), term(511, 1)},
		"a term in one of two":           {head(2, 1), a, b, term(7, 1)},
		"a great many spots":             {head(1, 1), a, termFrame(t, 7, []api.Post{{Doc: 0, Spots: spots(4096)}})},
		"spots far behind":               {head(1, 1), a, termFrame(t, 7, []api.Post{{Doc: 0, Spots: []api.Spot{{Pos: math.MaxInt64, At: math.MaxInt64}}}})},
		"a key like a frame":             {head(1, 0), docFrame(api.Doc{Key: string(frame.Put([]byte("a")))})},
		"a text like a key":              {head(2, 0), []byte("\x01a\x01b"), []byte("\x01b")},
		"the longest key, without text":  {head(1, 0), docFrame(api.Doc{Key: strings.Repeat("k", 32)})},
		"the longest key, with text":     {head(1, 0), docFrame(api.Doc{Key: strings.Repeat("k", 32), Text: "k"})},
		"the longest text":               {head(1, 0), docFrame(api.Doc{Key: "k", Text: strings.Repeat("x", 4096)})},
		"keys of which one begins other": {head(3, 0), []byte("\x01k"), []byte("\x02kk"), []byte("\x03kkk")},
	} {
		wantOpened(t, what, join(l...))
	}
	l := [][]byte{head(64, 512)}
	for _, d := range many(64, "text") {
		l = append(l, docFrame(d))
	}
	for token := range 512 {
		l = append(l, term(token, 0, 63))
	}
	wantOpened(t, "as many as may be", join(l...))
}

func TestP131OpenWrong(t *testing.T) {
	a, b := []byte("\x01a"), []byte("\x01bc")
	term := func(token int, docs ...int64) []byte { return termFrame(t, token, posts(docs...)) }
	over := append([][]byte{head(65, 0)}, make([][]byte, 65)...)
	for i, d := range many(65, "") {
		over[i+1] = docFrame(d)
	}
	for what, l := range map[string][][]byte{
		"no frame":                           {},
		"an empty frame":                     {nil},
		"one integer":                        {{0}},
		"one integer, cut off":               {{0, 0x80}},
		"three integers":                     {{0, 0, 0}},
		"an integer that is too long":        {{0x80, 0, 0}},
		"another that is too long":           {{0, 0x80, 0}},
		"a document too few":                 {head(1, 0)},
		"a document too many":                {head(0, 0), a},
		"a document too many, and a term":    {head(1, 1), a, b, term(1, 0)},
		"a term too few":                     {head(1, 2), a, term(1, 0)},
		"a term too many":                    {head(1, 1), a, term(1, 0), term(2, 0)},
		"documents and terms mixed up":       {head(1, 1), term(1, 0), a},
		"one document that is counted as 2":  {head(2, 0), a, term('a', 0)},
		"two documents that are counted as1": {head(1, 1), a, b},
		"the head at the end":                {a, head(1, 0)},
		"an empty document":                  {head(1, 0), nil},
		"a document without a key":           {head(1, 0), {0}},
		"a document without a key, a text":   {head(1, 0), []byte("\x00text")},
		"a key that is cut off":              {head(1, 0), []byte("\x02a")},
		"a key that is none":                 {head(1, 0), []byte("\x01")},
		"a key's length that is cut off":     {head(1, 0), []byte("\x80")},
		"a key's length that is too long":    {head(1, 0), []byte("\x81\x00a")},
		"a key that is too long":             {head(1, 0), docFrame(api.Doc{Key: strings.Repeat("k", 33)})},
		"a key that is much too long":        {head(1, 0), docFrame(api.Doc{Key: strings.Repeat("k", 1<<16)})},
		"a text that is too long":            {head(1, 0), docFrame(api.Doc{Key: "k", Text: strings.Repeat("k", 4097)})},
		"keys that are the same":             {head(2, 0), a, a},
		"keys that are the same, texts not":  {head(3, 0), []byte("\x01b"), a, b},
		"an empty term":                      {head(1, 1), a, nil},
		"a term without postings":            {head(1, 1), a, {1}},
		"a term without a posting":           {head(1, 1), a, {1, 0}},
		"a term that is too great":           {head(1, 1), a, term(512, 0)},
		"a term that is much too great":      {head(1, 1), a, append(leb.Put(1<<32), term(1, 0)[1:]...)},
		"a term that an int doesn't hold":    {head(1, 1), a, append(leb.Put(math.MaxUint64), term(1, 0)[1:]...)},
		"a term that is written too long":    {head(1, 1), a, append([]byte{0x81, 0}, term(1, 0)[1:]...)},
		"a term twice":                       {head(1, 2), a, term(1, 0), term(1, 0)},
		"0 twice":                            {head(1, 2), a, term(0, 0), term(0, 0)},
		"terms that fall":                    {head(1, 2), a, term(2, 0), term(1, 0)},
		"a term that falls behind others":    {head(1, 3), a, term(1, 0), term(300, 0), term(2, 0)},
		"postings of one that isn't there":   {head(1, 1), a, term(1, 1)},
		"postings of another, too":           {head(1, 1), a, term(1, 0, 1)},
		"postings of one that is far":        {head(1, 1), a, term(1, 1<<32)},
		"a wrong term behind a right one":    {head(2, 2), a, b, term(1, 0, 1), term(2, 0, 1, 2)},
		"a wrong term ahead of a right one":  {head(2, 2), a, b, term(1, 2), term(2, 0, 1)},
		"postings of no document":            {head(0, 1), term(1, 0)},
		"a byte behind postings":             {head(1, 1), a, append(term(1, 0), 0)},
		"postings that are cut off":          {head(1, 1), a, term(1, 0)[:9]},
		"too many documents":                 over,
	} {
		wantCorrupt(t, what, join(l...))
	}
}

// TestP131OpenCounts has all kinds of counts, whose sum may be right if it wraps round.
func TestP131OpenCounts(t *testing.T) {
	counts := []uint64{0, 1, 2, 3, 4, 5, 64, 127, 128, 512, 1 << 31, 1 << 32, 1<<32 + 1, 1<<63 - 1, 1 << 63, 1<<63 + 1, 1<<63 + 2, math.MaxUint64 - 1, math.MaxUint64}
	x, y := termFrame(t, 'x', posts(0)), termFrame(t, 'y', posts(0, 1)) // which are no documents
	found := 0
	for _, l := range [][][]byte{nil, {[]byte("\x01a")}, {[]byte("\x01a"), x}, {[]byte("\x01a"), []byte("\x01b")}, {[]byte("\x01a"), []byte("\x01b"), x, y}} {
		for _, docs := range counts {
			for _, terms := range counts {
				b := join(append([][]byte{append(leb.Put(docs), leb.Put(terms)...)}, l...)...)
				if wantOpen(t, "counts", b) {
					found++
				}
			}
		}
	}
	if found != 5 {
		t.Errorf("%d are segments, want 5", found)
	}
}

// TestP131OpenFrames has bytes that are no frames.
func TestP131OpenFrames(t *testing.T) {
	wantCorrupt(t, "nil", nil)
	b := built(t, "frames", abc(t), samples()[3])
	for _, bad := range []string{"\x00", "\x80", "\x01", "\x00\x00\x00\x00\x01", "\xff\xff\xff\xff\xff\xff", string(frame.Put(nil)), string(frame.Put([]byte{0, 0})), string(b)} {
		wantCorrupt(t, "behind", append(slices.Clone(b), bad...))
		wantCorrupt(t, "ahead", append([]byte(bad), b...))
	}
}

// spoilt is frames of which one is changed, gone, there twice, or elsewhere.
func (x *dice) spoilt(l [][]byte) [][]byte {
	l = slices.Clone(l)
	i := x.roll(len(l))
	content := slices.Clone(l[i])
	at := x.roll(len(content) + 1)
	switch x.roll(8) {
	case 0:
		return slices.Delete(l, i, i+1)
	case 1:
		return slices.Insert(l, i, content)
	case 2:
		j := x.roll(len(l))
		l[i], l[j] = l[j], l[i]
		return l
	case 3:
		content = content[:at]
	case 4:
		content = slices.Insert(content, at, byte(x.roll(3)*x.roll(128)))
	case 5:
		content = slices.Delete(content, at, min(at+1, len(content)))
	default:
		if at < len(content) {
			content[at] += byte(1 + x.roll(2)*x.roll(255))
		}
	}
	l[i] = content
	return l
}

func TestP131OpenChance(t *testing.T) {
	x := dice(131)
	c := abc(t)
	opened := 0
	const tries = 6000
	for range tries {
		l := c.frames(t, x.docs(3, 4))
		for range 1 + x.roll(2) {
			if len(l) > 0 {
				l = x.spoilt(l)
			}
		}
		if wantOpen(t, "chance", join(l...)) {
			opened++
		}
	}
	if opened < tries/20 || opened > tries/2 {
		t.Errorf("%d of %d were segments", opened, tries)
	}
}

// TestP131OpenEachHead has each two bytes be the first frame.
func TestP131OpenEachHead(t *testing.T) {
	x := termFrame(t, 'x', posts(0)) // which is no document
	for i := range 1 << 16 {
		b := join([]byte{byte(i), byte(i >> 8)}, []byte("\x01a"), []byte("\x01b"), x)
		_, e := seg.Open(b)
		if want := byte(i) == 2 && byte(i>>8) == 1; (e == api.OK) != want {
			t.Errorf("% x: error %d", i, e)
		}
	}
}

// wantWhole puts the texts together from all postings.
func wantWhole(t *testing.T, c coder, s *seg.Seg, docs []api.Doc) {
	t.Helper()
	if s.Many() != len(docs) {
		t.Errorf("there are %d documents, want %d", s.Many(), len(docs))
	}
	found := make([]map[int64]int, len(docs))
	for i := range found {
		found[i] = map[int64]int{}
	}
	n := 0
	for _, token := range s.Terms() {
		for _, p := range gone(t, s, token) {
			for _, spot := range p.Spots {
				found[p.Doc][spot.Pos] = token
				n++
				if !strings.HasPrefix(docs[p.Doc].Text[spot.At:], string(c.tokens[token])) {
					t.Errorf("token %d does not stand at byte %d of %q", token, spot.At, docs[p.Doc].Text)
				}
			}
		}
	}
	for i, d := range docs {
		if got, is := s.Doc(int64(i)); got != d || !is {
			t.Errorf("Doc(%d) = %q, %t, want %q", i, got, is, d)
		}
		var text []byte
		for pos := range len(found[i]) {
			text = append(text, c.tokens[found[i][int64(pos)]]...)
		}
		if string(text) != d.Text {
			t.Errorf("the tokens of document %d are %q, want %q", i, text, d.Text)
		}
		n -= len(found[i])
	}
	if n != 0 {
		t.Errorf("%d tokens stand where others do", n)
	}
}

func TestP132(t *testing.T) {
	x := dice(132)
	for _, c := range coders(t) {
		all := samples()
		for range 40 {
			all = append(all, x.docs(12, 60))
		}
		for _, l := range all {
			b, e := seg.Build(c.Coder, l)
			if e != api.OK {
				t.Fatal(e)
			}
			wantWhole(t, c, opened(t, b), l)
		}
	}
}

// TestP132Great has more bytes in all than a frame may have.
func TestP132Great(t *testing.T) {
	x := dice(5)
	l := many(maxInSeg, "")
	for i := range l {
		b := make([]byte, maxDoc)
		for j := range b {
			b[j] = byte(x.roll(256))
		}
		l[i].Text = string(b)
	}
	for _, c := range coders(t) {
		b, e := seg.Build(c.Coder, l)
		if e != api.OK || len(b) <= 2*maxFile {
			t.Fatal(len(b), e)
		}
		wantWhole(t, c, opened(t, b), l)
	}
}

// TestP131Greatest has a token of so many spots that no frame may have that many bytes: there are bytes of the segment, which frame.All refuses.
func TestP131Greatest(t *testing.T) {
	c := newCoder(t)
	for _, n := range []int{30, 31, 32, 33, maxInSeg} {
		l := many(n, strings.Repeat("a", maxDoc))
		term := len(termFrame(t, 'a', c.posts(t, l)['a']))
		b := built(t, "greatest", c, l)
		if is := wantOpen(t, "greatest", b); is != (term <= maxFile) {
			t.Errorf("a term of %d bytes can be opened: %t", term, is)
		}
	}
	l := many(maxInSeg, strings.Repeat("a", maxDoc))
	wantWhole(t, twice(t), opened(t, built(t, "greatest", twice(t), l)), l)
}

func TestP133Truncated(t *testing.T) {
	x := dice(133)
	for _, c := range coders(t) {
		for _, l := range append(samples(), x.docs(9, 50), x.docs(9, 50)) {
			b := built(t, "truncated", c, l)
			for n := range b {
				if s, e := seg.Open(b[:n]); s != nil || e != api.ErrCorrupt {
					t.Fatalf("%d of %d bytes: there is a segment: %t, error %d", n, len(b), s != nil, e)
				}
			}
		}
	}
}

func TestP133Changed(t *testing.T) {
	for _, l := range samples() {
		b := built(t, "changed", abc(t), l)
		for i, old := range b {
			for by := 1; by < 256; by++ {
				b[i] = old ^ byte(by)
				if s, e := seg.Open(b); s != nil || e != api.ErrCorrupt {
					t.Fatalf("byte %d of % x: there is a segment: %t, error %d", i, b, s != nil, e)
				}
			}
			b[i] = old
		}
	}
}

func TestP3TakesNothing(t *testing.T) {
	c := abc(t)
	docs := append(slices.Clone(samples()[3]), api.Doc{Key: "behind", Text: "it"})
	old := slices.Clone(docs)
	b, _ := seg.Build(c.Coder, docs[:3])
	seg.Build(c.Coder, append(docs, api.Doc{})[:5])
	if !slices.Equal(docs, old) {
		t.Errorf("the documents are %q behind the call", docs)
	}
	for _, n := range []int{len(b), len(b) - 1, 7} {
		room := append(slices.Clone(b), "behind it"...)
		seg.Open(room[:n])
		if want := append(slices.Clone(b), "behind it"...); !bytes.Equal(room, want) {
			t.Error("the bytes are others behind the call")
		}
	}
}

func TestP3KeepsNothing(t *testing.T) {
	c := abc(t)
	docs := slices.Clone(samples()[3])
	b := built(t, "keeps", c, docs)
	want, _ := openPlain(b)
	s := opened(t, b)
	clear(b)
	clear(docs)
	wantSeg(t, "keeps", s, want)
}

func TestP3IsNew(t *testing.T) {
	c := abc(t)
	docs := samples()[3]
	b := built(t, "new", c, docs)
	want, _ := openPlain(b)
	s := opened(t, b)
	spoilt, _ := seg.Build(c.Coder, docs)
	clear(spoilt[:cap(spoilt)])
	if again, _ := seg.Build(c.Coder, docs); !bytes.Equal(b, again) {
		t.Error("the bytes are others the second time")
	}
	terms := s.Terms()
	clear(terms[:cap(terms)])
	for _, token := range want.terms {
		l := s.Cursor(token).Spots()
		clear(l[:cap(l)])
	}
	wantSeg(t, "new", s, want)
}

// TestP3Apart has two cursors of one token, and two segments of the same bytes, neither of which knows of the other.
func TestP3Apart(t *testing.T) {
	b := built(t, "apart", abc(t), many(20, "ab"))
	s, r := opened(t, b), opened(t, b)
	one, other := s.Cursor(256), s.Cursor(256)
	for i := range 20 {
		doc, is := one.Doc()
		if doc != int64(i) || !is {
			t.Errorf("it is at %d, %t, want %d", doc, is, i)
		}
		one.Next()
		if doc, _ := other.Doc(); doc != 0 {
			t.Errorf("the other one is at %d", doc)
		}
	}
	want, _ := openPlain(b)
	wantSeg(t, "apart", s, want)
	wantSeg(t, "apart", r, want)
}

// TestP3SameAnswer asks again and again, since a map is gone through in another order each time.
func TestP3SameAnswer(t *testing.T) {
	c := full(t)
	x := dice(7)
	l := x.docs(9, 300)
	b := built(t, "same", c, l)
	want, _ := openPlain(b)
	for range 50 {
		if again, e := seg.Build(c.Coder, l); e != api.OK || !bytes.Equal(b, again) {
			t.Fatal("the bytes are others")
		}
		if got := opened(t, b).Terms(); !slices.Equal(got, want.terms) {
			t.Fatalf("Terms() = %d, want %d", got, want.terms)
		}
	}
}

// TestP1Bytes opens bytes of all kinds.
func TestP1Bytes(t *testing.T) {
	x := dice(11)
	for range 20000 {
		b := make([]byte, x.roll(12))
		for i := range b {
			b[i] = byte(x.roll(3) * x.roll(256))
		}
		wantOpen(t, "bytes", b)
	}
	wantCorrupt(t, "a great many", make([]byte, 1<<22))
	var l [][]byte
	for range 100000 {
		l = append(l, []byte("\x01a"))
	}
	wantCorrupt(t, "a great many frames", join(append([][]byte{head(100000, 0)}, l...)...))
	wantCorrupt(t, "a great many terms", join(append([][]byte{head(0, 100000)}, l...)...))
}
