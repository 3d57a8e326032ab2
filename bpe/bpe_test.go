package bpe_test

import (
	"bytes"
	"math"
	"slices"
	"strconv"
	"strings"
	"testing"

	"verbatim/api"
	"verbatim/bpe"
	"verbatim/vocab"
)

// encoded is the chapter's words: merge by merge, and from the left, until no pair has one.
func encoded(v api.Vocab, text []byte) ([]int, api.Errno) {
	if len(text) > 4096 {
		return nil, api.ErrTooMany
	}
	var l []int
	for i := range text {
		l = append(l, find(v.Tokens, text[i:i+1]))
	}
	for {
		rank, at := first(v, l)
		if at < 0 {
			return l, api.OK
		}
		l = slices.Replace(l, at, at+2, v.Merges[rank].To)
	}
}

// first is the earliest merge of two adjacent tokens, and at which of l it is leftmost; -1 if there is none.
func first(v api.Vocab, l []int) (int, int) {
	for rank, m := range v.Merges {
		for i := 1; i < len(l); i++ {
			if l[i-1] == m.A && l[i] == m.B {
				return rank, i - 1
			}
		}
	}
	return -1, -1
}

// decoded is the chapter's words, with the offsets.
func decoded(v api.Vocab, l []int) ([]byte, []int, api.Errno) {
	var text []byte
	var starts []int
	for _, i := range l {
		if i < 0 || i >= len(v.Tokens) {
			return nil, nil, api.ErrArg
		}
		starts = append(starts, len(text))
		text = append(text, v.Tokens[i]...)
	}
	if len(text) > 4096 {
		return nil, nil, api.ErrTooMany
	}
	return text, starts, api.OK
}

func find(l [][]byte, token []byte) int {
	return slices.IndexFunc(l, func(x []byte) bool { return bytes.Equal(x, token) })
}

// tok is the index of a token that is known to be there.
func tok(t *testing.T, v api.Vocab, token string) int {
	t.Helper()
	i := find(v.Tokens, []byte(token))
	if i < 0 {
		t.Fatalf("no token %q", token)
	}
	return i
}

// tokens are the tokens of a list, with blanks between them.
func tokens(v api.Vocab, l []int) string {
	var parts []string
	for _, i := range l {
		if i < 0 || i >= len(v.Tokens) {
			return "no token " + strconv.Itoa(i)
		}
		parts = append(parts, string(v.Tokens[i]))
	}
	return strings.Join(parts, " ")
}

// merging is the vocabulary of merges that are written as their two tokens, with a blank between them.
func merging(t *testing.T, merges ...string) api.Vocab {
	t.Helper()
	var l []api.Pair
	for _, m := range merges {
		a, b, _ := strings.Cut(m, " ")
		v, e := vocab.Build(l)
		if e != api.OK {
			t.Fatal(merges, e)
		}
		l = append(l, api.Pair{A: tok(t, v, a), B: tok(t, v, b)})
	}
	v, e := vocab.Build(l)
	if e != api.OK {
		t.Fatal(merges, e)
	}
	return v
}

// ordered is a vocabulary with its merges in another order: the one at order[0] comes first.
func ordered(v api.Vocab, order ...int) api.Vocab {
	w := api.Vocab{Tokens: v.Tokens}
	for _, i := range order {
		w.Merges = append(w.Merges, v.Merges[i])
	}
	return w
}

// dice are numbers that look like chance and are the same each time.
type dice uint64

func (x *dice) next() uint64 {
	*x = *x*6364136223846793005 + 1442695040888963407
	return uint64(*x) ^ uint64(*x)>>29
}

func (x *dice) roll(n int) int { return int(x.next() >> 33 % uint64(n)) }

// pairs are up to n pairs, of so many bytes and of the tokens that were made of them.
func (x *dice) pairs(n, letters int) []api.Pair {
	var l []api.Pair
	many := 256
	for range n {
		pick := func() int {
			if many == 256 || x.roll(3) == 0 {
				return 'a' + x.roll(letters)
			}
			return 256 + x.roll(many-256)
		}
		v, e := vocab.Build(append(l, api.Pair{A: pick(), B: pick()}))
		if e == api.OK {
			m := v.Merges[len(l)]
			l, many = append(l, api.Pair{A: m.A, B: m.B}), len(v.Tokens)
		}
	}
	return l
}

// shuffled is the same vocabulary with its tokens, and its merges, in another order.
func (x *dice) shuffled(v api.Vocab) api.Vocab {
	at := x.order(len(v.Tokens))
	w := api.Vocab{Tokens: make([][]byte, len(v.Tokens)), Merges: make([]api.Merge, len(v.Merges))}
	for i, token := range v.Tokens {
		w.Tokens[at[i]] = token
	}
	for i, j := range x.order(len(v.Merges)) {
		m := v.Merges[i]
		w.Merges[j] = api.Merge{A: at[m.A], B: at[m.B], To: at[m.To]}
	}
	return w
}

// order is the numbers below n in another order.
func (x *dice) order(n int) []int {
	l := make([]int, n)
	for i := range l {
		j := x.roll(i + 1)
		l[i], l[j] = l[j], i
	}
	return l
}

// text is n bytes, of so many letters.
func (x *dice) text(n, letters int) []byte {
	b := make([]byte, n)
	for i := range b {
		b[i] = byte('a' + x.roll(letters))
	}
	return b
}

// sample is a valid vocabulary, of so many letters, and what is special about it.
type sample struct {
	name    string
	v       api.Vocab
	letters int
}

// vocabs are valid vocabularies of each kind, in the same order each time.
func vocabs(t *testing.T) []sample {
	t.Helper()
	both := merging(t, "a b", "b a", "ab a", "a ba")
	l := []sample{
		{"bytes", merging(t), 3},
		{"ab", merging(t, "a b"), 2},
		{"a row of one letter", merging(t, "a a", "aa aa", "aaaa aaaa", "aaaaaaaa aaaaaaaa"), 1},
		{"a row of one letter, one by one", merging(t, "a a", "aa a", "aaa a", "aaaa a"), 2},
		{"both ways round", both, 2},
		{"a merge ahead of that which makes its part", ordered(both, 2, 3, 0, 1), 2},
		{"bytes from behind", merging(t), 3},
	}
	slices.Reverse(l[6].v.Tokens)
	x := dice(1)
	for i := range 24 {
		letters := 1 + i%4
		v, e := vocab.Build(x.pairs(5+x.roll(60), letters))
		if e != api.OK {
			t.Fatal(e)
		}
		name := "chance " + strconv.Itoa(i)
		l = append(l, sample{name, v, letters}, sample{name + ", shuffled", x.shuffled(v), letters})
	}
	return l
}

// wantCoder is a coder of a vocabulary that is known to be valid.
func wantCoder(t *testing.T, v api.Vocab) *bpe.Coder {
	t.Helper()
	c := bpe.New(v)
	if c == nil {
		t.Fatal("no coder")
	}
	return c
}

// wantTokens holds Encode, and what Decode and Starts make of it, against the chapter's words.
func wantTokens(t *testing.T, v api.Vocab, text []byte) []int {
	t.Helper()
	c := wantCoder(t, v)
	l, e := c.Encode(text)
	m, f := encoded(v, text)
	if !slices.Equal(l, m) || e != f {
		t.Errorf("%.80q: %.200q, error %d, want %.200q, error %d", text, tokens(v, l), e, tokens(v, m), f)
	}
	if e == api.OK {
		wantList(t, v, l, api.OK)
		wantBack(t, c, l, text)
		wantDone(t, v, l)
	}
	return l
}

// wantBack is P6.2.
func wantBack(t *testing.T, c *bpe.Coder, l []int, text []byte) {
	t.Helper()
	if b, e := c.Decode(l); !bytes.Equal(b, text) || e != api.OK {
		t.Errorf("%.80q came back as %.80q, error %d", text, b, e)
	}
}

// wantDone is P6.3.
func wantDone(t *testing.T, v api.Vocab, l []int) {
	t.Helper()
	for i, token := range l {
		if token < 0 || token >= len(v.Tokens) {
			t.Errorf("%d is no token", token)
		}
		if i > 0 && slices.ContainsFunc(v.Merges, func(m api.Merge) bool { return m.A == l[i-1] && m.B == token }) {
			t.Errorf("%d and %d have a merge", l[i-1], token)
		}
	}
}

// wantList holds Decode and Starts against the chapter's words, of which the error is known as well.
func wantList(t *testing.T, v api.Vocab, l []int, want api.Errno) {
	t.Helper()
	c := wantCoder(t, v)
	text, starts, e := decoded(v, l)
	if e != want {
		t.Errorf("the chapter's words say error %d, want %d", e, want)
	}
	if b, f := c.Decode(l); !bytes.Equal(b, text) || f != e || f != api.OK && b != nil {
		t.Errorf("decoding %d tokens: %.80q, error %d, want %.80q, error %d", len(l), b, f, text, e)
	}
	if k, f := c.Starts(l); !slices.Equal(k, starts) || f != e || f != api.OK && k != nil {
		t.Errorf("starts of %d tokens: %.20v, error %d, want %.20v, error %d", len(l), k, f, starts, e)
	}
}

func TestP61NewOfValid(t *testing.T) {
	for _, x := range vocabs(t) {
		if bpe.New(x.v) == nil {
			t.Error("no coder of", x.name)
		}
	}
}

// TestP61NewOfNone has a vocabulary of each of Check's errors.
func TestP61NewOfNone(t *testing.T) {
	singles := merging(t).Tokens
	with := func(tokens ...string) [][]byte {
		l := slices.Clone(singles)
		for _, token := range tokens {
			l = append(l, []byte(token))
		}
		return l
	}
	ab := api.Merge{A: 'a', B: 'b', To: 256}
	for _, x := range []struct {
		what string
		v    api.Vocab
		want api.Errno
	}{
		{"nothing", api.Vocab{}, api.ErrByte},
		{"255 bytes", api.Vocab{Tokens: singles[1:]}, api.ErrByte},
		{"255 bytes, the last one missing", api.Vocab{Tokens: singles[:255]}, api.ErrByte},
		{"an empty token", api.Vocab{Tokens: with("")}, api.ErrToken},
		{"a token twice", api.Vocab{Tokens: with("ab", "ab")}, api.ErrToken},
		{"a token of 17 bytes", api.Vocab{Tokens: with("0123456789abcdefg")}, api.ErrToken},
		{"513 tokens", api.Vocab{Tokens: slices.Repeat(singles, 3)[:513]}, api.ErrTooMany},
		{"513 merges", api.Vocab{Tokens: with("ab"), Merges: make([]api.Merge, 513)}, api.ErrTooMany},
		{"a merge to another token", api.Vocab{Tokens: with("ab", "cd"), Merges: []api.Merge{{A: 'a', B: 'b', To: 257}}}, api.ErrMerge},
		{"a merge to no token", api.Vocab{Tokens: with("ab"), Merges: []api.Merge{{A: 'a', B: 'b', To: 257}}}, api.ErrMerge},
		{"a merge of no token", api.Vocab{Tokens: with("ab"), Merges: []api.Merge{{A: -1, B: 'b', To: 256}}}, api.ErrMerge},
		{"a merge twice", api.Vocab{Tokens: with("ab"), Merges: []api.Merge{ab, ab}}, api.ErrMerge},
	} {
		if e := vocab.Check(x.v); e != x.want {
			t.Errorf("%s: error %d", x.what, e)
		}
		if bpe.New(x.v) != nil {
			t.Error("a coder of", x.what)
		}
	}
}

func TestP61EncodeKnown(t *testing.T) {
	both := merging(t, "a b", "b a", "ab a")
	rows := merging(t, "a a", "aa aa")
	for _, x := range []struct {
		v          api.Vocab
		text, want string
	}{
		{merging(t, "a b"), "aab", "a ab"},
		{merging(t, "a b"), "ba", "b a"},
		{merging(t, "a b"), "abab", "ab ab"},
		{merging(t, "a b"), "", ""},
		{merging(t, "a b"), "a", "a"},
		{merging(t, "a b"), "ab", "ab"},
		{merging(t), "ab", "a b"},
		{merging(t, "a a"), "aaa", "aa a"}, // the leftmost one
		{merging(t, "a a"), "aaaaa", "aa aa a"},
		{rows, "aaaaaaa", "aaaa aa a"},
		{merging(t, "a b", "b c"), "abc", "ab c"}, // the earliest one, be it on the left
		{merging(t, "b c", "a b"), "abc", "a bc"}, // or on the right
		{merging(t, "b c", "a b", "ab c"), "abc", "a bc"},
		{merging(t, "b c", "a b", "a bc"), "abc", "abc"},
		{merging(t, "b c", "a b"), "abcab", "a bc ab"},
		{both, "abab", "ab ab"},
		{ordered(both, 2, 0, 1), "abab", "aba b"}, // an earlier merge that became possible comes ahead of one that already was
		{ordered(both, 2, 1, 0), "abab", "a ba b"},
		{ordered(both, 1, 2, 0), "abab", "a ba b"},
		{ordered(rows, 1, 0), "aaaaaa", "aaaa aa"},
		{merging(t, "\x00 \x00", "\xff \x00"), "\x00\xff\x00\x00\xff", "\x00 \xff \x00\x00 \xff"},
	} {
		if l := wantTokens(t, x.v, []byte(x.text)); tokens(x.v, l) != x.want {
			t.Errorf("%q: %q, want %q", x.text, tokens(x.v, l), x.want)
		}
	}
}

// TestP61EncodeIndices: the single bytes may stand anywhere, and so may what a merge makes.
func TestP61EncodeIndices(t *testing.T) {
	v := merging(t, "a b")
	slices.Reverse(v.Tokens)
	v.Merges[0] = api.Merge{A: 256 - 'a', B: 256 - 'b', To: 0}
	for text, want := range map[string][]int{"": nil, "a": {256 - 'a'}, "\x00\xff": {256, 1}, "aab": {256 - 'a', 0}} {
		if l := wantTokens(t, v, []byte(text)); !slices.Equal(l, want) {
			t.Error(text, l, want)
		}
	}
}

// TestP61EncodeTwoMerges: two merges make the same token.
func TestP61EncodeTwoMerges(t *testing.T) {
	v := merging(t, "a b", "b c", "ab c", "a bc")
	if len(v.Tokens) != 259 || v.Merges[2].To != v.Merges[3].To {
		t.Fatal(len(v.Tokens), v.Merges)
	}
	for _, order := range [][]int{{0, 1, 2, 3}, {1, 0, 2, 3}, {3, 2, 1, 0}, {0, 1, 3}, {1, 0, 2}} {
		w := ordered(v, order...)
		for _, text := range []string{"abc", "aabc", "abcc", "abcabc", "ababcc"} {
			wantTokens(t, w, []byte(text))
		}
	}
}

// TestP61EncodeAll has all texts of up to eight letters, of two.
func TestP61EncodeAll(t *testing.T) {
	both := merging(t, "a b", "b a", "ab a", "a ba", "a a", "aa b")
	x := dice(2)
	l := []api.Vocab{both}
	for range 8 {
		l = append(l, x.shuffled(both))
	}
	for _, v := range l {
		for n := range 9 {
			for bits := range 1 << n {
				text := make([]byte, n)
				for i := range text {
					text[i] = byte('a' + bits>>i&1)
				}
				wantTokens(t, v, text)
			}
		}
	}
}

func TestP61EncodeChance(t *testing.T) {
	x := dice(3)
	for _, s := range vocabs(t) {
		for range 40 {
			wantTokens(t, s.v, x.text(x.roll(60), s.letters))
		}
		wantTokens(t, s.v, x.text(300, s.letters+1))
	}
}

func TestP61EncodeBytes(t *testing.T) {
	x := dice(4)
	all := make([]byte, 256)
	for c := range all {
		all[c] = byte(c)
	}
	for _, s := range vocabs(t) {
		wantTokens(t, s.v, all)
		for range 3 {
			text := x.text(30, s.letters)
			text[x.roll(30)] = byte(x.roll(256))
			wantTokens(t, s.v, text)
		}
	}
}

// TestP61EncodeLong has texts of the greatest length, and longer ones.
func TestP61EncodeLong(t *testing.T) {
	x := dice(5)
	ab := merging(t, "a a", "a b", "aa aa")
	for _, n := range []int{4095, 4096, 4097, 5000, 1 << 20} {
		wantTokens(t, ab, x.text(n, 2))
		wantTokens(t, ab, bytes.Repeat([]byte("a"), n))
		c := wantCoder(t, ab)
		l, e := c.Encode(make([]byte, n))
		if n <= 4096 && (len(l) != n || e != api.OK) || n > 4096 && (l != nil || e != api.ErrTooMany) {
			t.Errorf("%d bytes: %d tokens, error %d", n, len(l), e)
		}
	}
}

// TestP61EncodeGreat has the most tokens and merges that a vocabulary may have.
func TestP61EncodeGreat(t *testing.T) {
	x := dice(6)
	for _, letters := range []int{2, 3, 16} {
		v, e := vocab.Build(x.pairs(512, letters))
		if e != api.OK || len(v.Merges) < 30 {
			t.Fatal(len(v.Merges), e)
		}
		for range 10 {
			wantTokens(t, v, x.text(400, letters))
		}
	}
	var l []api.Pair
	for c := range 256 {
		l = append(l, api.Pair{A: 'a', B: c})
	}
	for c := range 256 {
		l = append(l, api.Pair{A: 256 + c, B: 'a'})
	}
	_, e := vocab.Build(l)
	if e != api.ErrTooMany {
		t.Fatal(e)
	}
	v, e := vocab.Build(l[:256])
	if e != api.OK || len(v.Tokens) != 512 {
		t.Fatal(len(v.Tokens), e)
	}
	wantTokens(t, v, x.text(400, 26))
	wantTokens(t, v, []byte("\xff\x00a\x00a\xffaaa"))
}

func TestP61DecodeKnown(t *testing.T) {
	v := merging(t, "b c", "a b", "ab c")
	c := wantCoder(t, v)
	for _, x := range []struct {
		l      []int
		text   string
		starts []int
	}{
		{nil, "", nil},
		{[]int{}, "", nil},
		{[]int{'x'}, "x", []int{0}},
		{[]int{258, 'x', 256}, "abcxbc", []int{0, 3, 4}},
		{[]int{'a', 'b', 'c'}, "abc", []int{0, 1, 2}}, // no list that Encode returns
		{[]int{0, 255, 0}, "\x00\xff\x00", []int{0, 1, 2}},
	} {
		wantList(t, v, x.l, api.OK)
		if b, e := c.Decode(x.l); string(b) != x.text || e != api.OK {
			t.Errorf("%v: %q, error %d, want %q", x.l, b, e, x.text)
		}
		if k, e := c.Starts(x.l); !slices.Equal(k, x.starts) || e != api.OK {
			t.Errorf("%v: %v, error %d, want %v", x.l, k, e, x.starts)
		}
	}
}

func TestP61DecodeWrong(t *testing.T) {
	v := merging(t, "b c", "a b", "ab c")
	for _, i := range []int{-1, 259, 260, 512, -256, 1 << 32, 1<<32 + 'a', math.MaxInt, math.MinInt} {
		wantList(t, v, []int{i}, api.ErrArg)
		wantList(t, v, []int{i, 'a', 'b'}, api.ErrArg)
		wantList(t, v, []int{'a', i, 'b'}, api.ErrArg)
		wantList(t, v, []int{'a', 'b', i}, api.ErrArg)
		wantList(t, v, append(slices.Repeat([]int{258}, 5000), i), api.ErrArg) // which the chapter names ahead of ErrTooMany
	}
	for _, i := range []int{0, 255, 256, 258} {
		wantList(t, v, []int{i}, api.OK)
	}
}

func TestP61DecodeLong(t *testing.T) {
	v := merging(t, "a a", "aa a", "aa aa", "aaaa aaaa", "aaaaaaaa aaaaaaaa")
	long := tok(t, v, strings.Repeat("a", 16))
	three := tok(t, v, "aaa")
	for _, x := range []struct {
		l    []int
		want api.Errno
	}{
		{slices.Repeat([]int{'a'}, 4095), api.OK},
		{slices.Repeat([]int{'a'}, 4096), api.OK},
		{slices.Repeat([]int{'a'}, 4097), api.ErrTooMany},
		{slices.Repeat([]int{long}, 255), api.OK},
		{slices.Repeat([]int{long}, 256), api.OK},
		{append(slices.Repeat([]int{long}, 256), 'a'), api.ErrTooMany},
		{append([]int{'a'}, slices.Repeat([]int{long}, 256)...), api.ErrTooMany},
		{slices.Repeat([]int{long}, 257), api.ErrTooMany},
		{slices.Repeat([]int{three}, 1365), api.OK},
		{append(slices.Repeat([]int{three}, 1365), 'a'), api.OK},
		{append(slices.Repeat([]int{three}, 1365), 'a', 'a'), api.ErrTooMany},
		{slices.Repeat([]int{three}, 1366), api.ErrTooMany},
		{append(slices.Repeat([]int{three}, 1366), 'a'), api.ErrTooMany},
	} {
		wantList(t, v, x.l, x.want)
	}
}

func TestP61DecodeChance(t *testing.T) {
	x := dice(7)
	for _, s := range vocabs(t) {
		for range 20 {
			l := make([]int, x.roll(40))
			for i := range l {
				l[i] = x.roll(len(s.v.Tokens))
			}
			wantList(t, s.v, l, api.OK)
		}
	}
}

// TestP62RoundTrip has texts that the chapter's words would take too long for.
func TestP62RoundTrip(t *testing.T) {
	x := dice(8)
	for _, s := range vocabs(t) {
		c := wantCoder(t, s.v)
		for _, n := range []int{0, 1, 2, 1000, 4096} {
			text := x.text(n, s.letters)
			l, e := c.Encode(text)
			if e != api.OK {
				t.Fatal(s.name, n, e)
			}
			wantBack(t, c, l, text)
			starts, e := c.Starts(l)
			if e != api.OK || len(starts) != len(l) {
				t.Fatal(s.name, n, e)
			}
			for i, at := range starts {
				if !bytes.HasPrefix(text[at:], s.v.Tokens[l[i]]) {
					t.Errorf("%s: token %d does not begin at %d", s.name, l[i], at)
				}
			}
		}
	}
}

func TestP63NoMergeIsLeft(t *testing.T) {
	x := dice(9)
	for _, s := range vocabs(t) {
		c := wantCoder(t, s.v)
		for range 5 {
			l, e := c.Encode(x.text(4096, s.letters))
			if e != api.OK {
				t.Fatal(s.name, e)
			}
			wantDone(t, s.v, l)
		}
	}
}

// spoil overwrites a list with its spare capacity.
func spoil[T byte | int](l []T) {
	l = l[:cap(l)]
	for i := range l {
		l[i] ^= 0x55
	}
}

// TestP3TakesNothing: what is passed is as it was, with what lies behind it, which is no part of it.
func TestP3TakesNothing(t *testing.T) {
	v := merging(t, "a b", "b c", "ab c", "c c")
	room := api.Vocab{Tokens: slices.Clone(v.Tokens), Merges: slices.Clone(v.Merges)}
	c := wantCoder(t, api.Vocab{Tokens: room.Tokens[:259:260], Merges: room.Merges[:3]})
	if !slices.EqualFunc(room.Tokens, v.Tokens, bytes.Equal) || !slices.Equal(room.Merges, v.Merges) {
		t.Error("a vocabulary was changed")
	}
	text := []byte("abccabcab")
	l, e := c.Encode(text[:4])
	if tokens(v, l) != "abc c" || e != api.OK || string(text) != "abccabcab" {
		t.Error(tokens(v, l), e, string(text))
	}
	list := []int{256, 'c', 999}
	if b, e := c.Decode(list[:2]); string(b) != "abc" || e != api.OK {
		t.Error(string(b), e)
	}
	if k, e := c.Starts(list[:2]); !slices.Equal(k, []int{0, 2}) || e != api.OK {
		t.Error(k, e)
	}
	if !slices.Equal(list, []int{256, 'c', 999}) {
		t.Error("a list was changed")
	}
	if _, e := c.Decode([]int{259}); e != api.ErrArg {
		t.Error("a token that lies behind the vocabulary", e)
	}
}

// TestP3KeepsNothing: a coder goes on as it was made, whatever becomes of the vocabulary that was passed.
func TestP3KeepsNothing(t *testing.T) {
	want := merging(t, "a b", "b c", "ab c")
	v := merging(t, "a b", "b c", "ab c")
	c := wantCoder(t, v)
	for _, token := range v.Tokens {
		spoil(token)
	}
	clear(v.Tokens)
	clear(v.Merges)
	text := []byte("abcbcab")
	l, e := c.Encode(text)
	if tokens(want, l) != "abc bc ab" || e != api.OK {
		t.Error(tokens(want, l), e)
	}
	spoil(text)
	wantBack(t, c, l, []byte("abcbcab"))
	if k, e := c.Starts(l); !slices.Equal(k, []int{0, 3, 5}) || e != api.OK {
		t.Error(k, e)
	}
}

// TestP3IsNew: nothing that is returned shares memory with what was passed, with the coder, or with another call's.
func TestP3IsNew(t *testing.T) {
	v := merging(t, "a b", "b c", "ab c")
	c := wantCoder(t, v)
	for range 2 {
		l, _ := c.Encode([]byte("abcbcx"))
		m, _ := c.Encode([]byte("abcbcx"))
		spoil(m)
		if tokens(v, l) != "abc bc x" {
			t.Error(tokens(v, l))
		}
		for _, list := range [][]int{l, {258}, {'a'}} {
			text, starts, _ := decoded(v, list)
			b, _ := c.Decode(list)
			d, _ := c.Decode(list)
			k, _ := c.Starts(list)
			n, _ := c.Starts(list)
			spoil(d)
			spoil(n)
			if !bytes.Equal(b, text) || !slices.Equal(k, starts) {
				t.Error(string(b), k)
			}
			wantBack(t, c, list, text)
			spoil(b)
			spoil(k)
		}
		if tokens(v, l) != "abc bc x" {
			t.Error(tokens(v, l))
		}
	}
	if find(v.Tokens, []byte("abc")) != 258 {
		t.Error("the vocabulary was changed")
	}
}

// TestP3SameAnswer: a call hangs on no call ahead of it, and one coder on no other.
func TestP3SameAnswer(t *testing.T) {
	v, w := merging(t, "a b", "b c"), merging(t, "b c", "a b")
	c, d := wantCoder(t, v), wantCoder(t, w)
	for range 3 {
		for _, text := range []string{"abc", "", "bcab", strings.Repeat("x", 5000)} {
			l, e := c.Encode([]byte(text))
			m, f := d.Encode([]byte(text))
			k, g := encoded(v, []byte(text))
			n, h := encoded(w, []byte(text))
			if !slices.Equal(l, k) || e != g || !slices.Equal(m, n) || f != h {
				t.Error(text, tokens(v, l), e, tokens(w, m), f)
			}
		}
		c.Decode([]int{-1})
		d.Starts(make([]int, 5000))
	}
}

// TestP1Long ends soon, however long the input is.
func TestP1Long(t *testing.T) {
	x := dice(10)
	for _, s := range vocabs(t) {
		c := wantCoder(t, s.v)
		if l, e := c.Encode(make([]byte, 1<<20)); l != nil || e != api.ErrTooMany {
			t.Error(len(l), e)
		}
		if b, e := c.Decode(make([]int, 1<<20)); b != nil || e != api.ErrTooMany {
			t.Error(len(b), e)
		}
		if k, e := c.Starts(append(make([]int, 1<<20), -1)); k != nil || e != api.ErrArg {
			t.Error(len(k), e)
		}
		if _, e := c.Encode(bytes.Repeat(x.text(3, s.letters), 1365)); e != api.OK {
			t.Error(e)
		}
	}
}
