package vocab_test

import (
	"bytes"
	"math"
	"slices"
	"strconv"
	"testing"

	"verbatim/api"
	"verbatim/leb"
	"verbatim/vocab"
)

// checked is the chapter's words, list by list: each token is held against all others, each merge against those ahead of it.
func checked(v api.Vocab) api.Errno {
	if len(v.Tokens) > 512 || len(v.Merges) > 512 {
		return api.ErrTooMany
	}
	for i, token := range v.Tokens {
		if len(token) < 1 || len(token) > 16 || find(v.Tokens[:i], token) >= 0 {
			return api.ErrToken
		}
	}
	for c := range 256 {
		if find(v.Tokens, []byte{byte(c)}) < 0 {
			return api.ErrByte
		}
	}
	for i, m := range v.Merges {
		for _, index := range []int{m.A, m.B, m.To} {
			if index < 0 || index >= len(v.Tokens) {
				return api.ErrMerge
			}
		}
		if string(v.Tokens[m.To]) != string(v.Tokens[m.A])+string(v.Tokens[m.B]) || merged(v.Merges[:i], m.A, m.B) {
			return api.ErrMerge
		}
	}
	return api.OK
}

// built is the chapter's words, list by list.
func built(l []api.Pair) (api.Vocab, api.Errno) {
	v := singles()
	for _, p := range l {
		if p.A < 0 || p.A >= len(v.Tokens) || p.B < 0 || p.B >= len(v.Tokens) || merged(v.Merges, p.A, p.B) {
			return api.Vocab{}, api.ErrMerge
		}
		both := []byte(string(v.Tokens[p.A]) + string(v.Tokens[p.B]))
		if len(both) > 16 {
			return api.Vocab{}, api.ErrToken
		}
		to := find(v.Tokens, both)
		if to < 0 {
			to = len(v.Tokens)
			v.Tokens = append(v.Tokens, both)
		}
		v.Merges = append(v.Merges, api.Merge{A: p.A, B: p.B, To: to})
		if len(v.Tokens) > 512 || len(v.Merges) > 512 {
			return api.Vocab{}, api.ErrTooMany
		}
	}
	return v, api.OK
}

// written is the chapter's words, of anything that is written so, be it a vocabulary or not.
func written(v api.Vocab) []byte {
	b := leb.Put(uint64(len(v.Tokens)))
	for _, token := range v.Tokens {
		b = slices.Concat(b, leb.Put(uint64(len(token))), token)
	}
	b = slices.Concat(b, leb.Put(uint64(len(v.Merges))))
	for _, m := range v.Merges {
		b = slices.Concat(b, leb.Put(uint64(m.A)), leb.Put(uint64(m.B)), leb.Put(uint64(m.To)))
	}
	return b
}

// number is the integer that b begins with, which is to be at most most, and what stands behind it.
func number(b []byte, most uint64) (int, []byte, api.Errno) {
	n, many, e := leb.Get(b)
	if e == api.OK && n > most {
		e = api.ErrLong
	}
	if e != api.OK {
		return 0, nil, e
	}
	return int(n), b[many:], api.OK
}

// readTokens is tokens and what stands behind them, with the first error.
func readTokens(b []byte) ([][]byte, []byte, api.Errno) {
	var l [][]byte
	many, b, e := number(b, 512)
	for len(l) < many && e == api.OK {
		var long int
		if long, b, e = number(b, 16); e != api.OK {
			return nil, nil, e
		}
		if long > len(b) {
			return nil, nil, api.ErrEnd
		}
		l, b = append(l, b[:long]), b[long:]
	}
	return l, b, e
}

// got is the chapter's words.
func got(b []byte) (api.Vocab, api.Errno) {
	var v api.Vocab
	l, b, e := readTokens(b)
	if e != api.OK {
		return api.Vocab{}, e
	}
	v.Tokens = l
	many, b, e := number(b, 512)
	for len(v.Merges) < many && e == api.OK {
		var x [3]int
		for i := range x {
			if e == api.OK {
				x[i], b, e = number(b, 512)
			}
		}
		v.Merges = append(v.Merges, api.Merge{A: x[0], B: x[1], To: x[2]})
	}
	if e == api.OK && len(b) > 0 {
		e = api.ErrCorrupt
	}
	if e == api.OK {
		e = checked(v)
	}
	if e != api.OK {
		return api.Vocab{}, e
	}
	return v, api.OK
}

func find(l [][]byte, token []byte) int {
	return slices.IndexFunc(l, func(x []byte) bool { return bytes.Equal(x, token) })
}

func merged(l []api.Merge, a, b int) bool {
	return slices.ContainsFunc(l, func(m api.Merge) bool { return m.A == a && m.B == b })
}

// singles is the vocabulary of the single bytes alone.
func singles() api.Vocab {
	var v api.Vocab
	for c := range 256 {
		v.Tokens = append(v.Tokens, []byte{byte(c)})
	}
	return v
}

// with is the single bytes, these tokens, and these merges.
func with(tokens []string, merges ...api.Merge) api.Vocab {
	v := singles()
	for _, token := range tokens {
		v.Tokens = append(v.Tokens, []byte(token))
	}
	v.Merges = merges
	return v
}

// full is the single bytes and n tokens of three bytes.
func full(n int) api.Vocab {
	v := singles()
	for i := range n {
		v.Tokens = append(v.Tokens, []byte{0, byte(i >> 8), byte(i)})
	}
	return v
}

// rows are 600 pairs, of five bytes that are repeated up to 16 times, each row of bytes from all its parts; they make 75 tokens.
func rows() []api.Pair {
	var l []api.Pair
	next := 256
	for c := range 5 {
		of := []int{-1, c}
		for n := 2; n <= 16; n++ {
			for i := 1; i < n; i++ {
				l = append(l, api.Pair{A: of[i], B: of[n-i]})
			}
			of, next = append(of, next), next+1
		}
	}
	return l
}

// manyTokens are 256 pairs that make a token each, so that there are 512: 00 followed by a byte, and 00 00 00.
func manyTokens() []api.Pair {
	l := []api.Pair{{A: 0, B: 0}, {A: 256, B: 0}}
	for c := 1; c < 255; c++ {
		l = append(l, api.Pair{A: 0, B: c})
	}
	return l
}

// dice are numbers that look like chance and are the same each time.
type dice uint64

func (x *dice) next() uint64 {
	*x = *x*6364136223846793005 + 1442695040888963407
	return uint64(*x) ^ uint64(*x)>>29
}

func (x *dice) roll(n int) int { return int(x.next() >> 33 % uint64(n)) }

// pairs are n pairs, of a few bytes and of the tokens that were made of them; now and then one is wrong.
func (x *dice) pairs(n, odd int) []api.Pair {
	var l []api.Pair
	for i := range n {
		pick := func() int {
			if i == 0 || x.roll(3) == 0 {
				return 97 + x.roll(4)
			}
			return 256 + x.roll(i)
		}
		p := api.Pair{A: pick(), B: pick()}
		if _, e := built(append(l, p)); e == api.OK || x.roll(odd) == 0 {
			l = append(l, p)
		}
	}
	return l
}

// sample is a valid vocabulary, and what is special about it.
type sample struct {
	name string
	v    api.Vocab
}

// vocabs are valid vocabularies of each kind, in the same order each time.
func vocabs(t *testing.T) []sample {
	t.Helper()
	l := []sample{
		{"bytes", singles()},
		{"ab", with([]string{"ab"}, api.Merge{A: 97, B: 98, To: 256})},
		{"a token that no merge makes, and one of 16 bytes", with([]string{"xyz", "0123456789abcdef"})},
		{"a merge ahead of that which makes its part", with([]string{"abc", "ab"}, api.Merge{A: 257, B: 99, To: 256}, api.Merge{A: 97, B: 98, To: 257})},
		{"two merges to one token", with([]string{"ab", "bc", "abc"}, api.Merge{A: 256, B: 99, To: 258}, api.Merge{A: 97, B: 257, To: 258})},
		{"both ways round", with([]string{"ab", "ba"}, api.Merge{A: 97, B: 98, To: 256}, api.Merge{A: 98, B: 97, To: 257})},
		{"512 tokens", full(256)},
		{"the bytes from behind", singles()},
		{"512 merges", wantBuilt(t, rows()[:512])},
		{"512 tokens by merges", wantBuilt(t, manyTokens())},
	}
	slices.Reverse(l[7].v.Tokens)
	x := dice(1)
	for i := range 10 {
		v := wantBuilt(t, x.pairs(x.roll(60), 1000000))
		l = append(l, sample{"chance " + strconv.Itoa(i), v}, sample{"shuffled " + strconv.Itoa(i), x.shuffled(v)}) // in an order that Build would not give
	}
	return l
}

// wantBuilt is what pairs make that are known to be right.
func wantBuilt(t *testing.T, l []api.Pair) api.Vocab {
	t.Helper()
	v, e := built(l)
	if e != api.OK {
		t.Fatalf("%d pairs: error %d", len(l), e)
	}
	return v
}

// shuffled is the same vocabulary with its tokens in another order.
func (x *dice) shuffled(v api.Vocab) api.Vocab {
	at := make([]int, len(v.Tokens))
	for i := range at {
		j := x.roll(i + 1)
		at[i], at[j] = at[j], i
	}
	w := api.Vocab{Tokens: make([][]byte, len(v.Tokens))}
	for i, token := range v.Tokens {
		w.Tokens[at[i]] = token
	}
	for _, m := range v.Merges {
		w.Merges = append(w.Merges, api.Merge{A: at[m.A], B: at[m.B], To: at[m.To]})
	}
	return w
}

func clone(v api.Vocab) api.Vocab {
	w := api.Vocab{Merges: slices.Clone(v.Merges)}
	for _, token := range v.Tokens {
		w.Tokens = append(w.Tokens, bytes.Clone(token))
	}
	return w
}

func same(v, w api.Vocab) bool {
	return slices.EqualFunc(v.Tokens, w.Tokens, bytes.Equal) && slices.Equal(v.Merges, w.Merges)
}

func wantCheck(t *testing.T, what string, v api.Vocab, want api.Errno) {
	t.Helper()
	if e := vocab.Check(v); e != want {
		t.Errorf("%s: error %d, want %d", what, e, want)
	}
	b, e := vocab.Put(v)
	if e != want || e != api.OK && b != nil {
		t.Errorf("put of %s: %d bytes, error %d, want %d", what, len(b), e, want)
	}
	if e == api.OK && !bytes.Equal(b, written(v)) {
		t.Errorf("put of %s: other bytes", what)
	}
}

func wantVocab(t *testing.T, what string, v api.Vocab, e api.Errno, w api.Vocab, want api.Errno) {
	t.Helper()
	if !same(v, w) || e != want || e != api.OK && (v.Tokens != nil || v.Merges != nil) {
		t.Errorf("%s: %d tokens, %d merges, error %d, want %d tokens, %d merges, error %d", what, len(v.Tokens), len(v.Merges), e, len(w.Tokens), len(w.Merges), want)
	}
}

// wantBuild holds Build against the chapter's words, of which the error is known as well.
func wantBuild(t *testing.T, what string, l []api.Pair, want api.Errno) {
	t.Helper()
	v, e := vocab.Build(l)
	w, f := built(l)
	wantVocab(t, what, v, e, w, f)
	if e != want {
		t.Errorf("%s: error %d, want %d", what, e, want)
	}
	if e == api.OK {
		wantCheck(t, what, v, api.OK)
	}
}

func wantGet(t *testing.T, what string, b []byte, want api.Errno) {
	t.Helper()
	if e := wantRef(t, what, b); e != want {
		t.Errorf("%s: the chapter's words say error %d, want %d", what, e, want)
	}
}

// wantRef holds Get against the chapter's words, and tells the error.
func wantRef(t *testing.T, what string, b []byte) api.Errno {
	t.Helper()
	v, e := vocab.Get(b)
	w, f := got(b)
	wantVocab(t, what, v, e, w, f)
	return f
}

func TestP51CheckValid(t *testing.T) {
	for _, x := range vocabs(t) {
		if e := checked(x.v); e != api.OK {
			t.Fatal(x.name, e)
		}
		wantCheck(t, x.name, x.v, api.OK)
	}
}

func TestP51CheckTooMany(t *testing.T) {
	wantCheck(t, "513 tokens", full(257), api.ErrTooMany)
	wantCheck(t, "513 tokens that are none", api.Vocab{Tokens: make([][]byte, 513)}, api.ErrTooMany)
	wantCheck(t, "512 tokens that are none", api.Vocab{Tokens: make([][]byte, 512)}, api.ErrToken)
	wantCheck(t, "513 merges that are none", api.Vocab{Merges: make([]api.Merge, 513)}, api.ErrTooMany)
	wantCheck(t, "512 merges, of no tokens", api.Vocab{Merges: make([]api.Merge, 512)}, api.ErrByte)
	v, _ := built(rows()[:512])
	for i, token := range v.Tokens {
		if len(token) == 3 { // one more that would be one
			v.Merges = append(v.Merges, api.Merge{A: i, B: i, To: find(v.Tokens, bytes.Repeat(token, 2))})
		}
	}
	v.Merges = v.Merges[:513]
	wantCheck(t, "513 merges", v, api.ErrTooMany)
	wantCheck(t, "512 of them", api.Vocab{Tokens: v.Tokens, Merges: v.Merges[:512]}, api.OK)
	v.Merges = append(v.Merges, make([]api.Merge, 1000)...)
	wantCheck(t, "many more merges", v, api.ErrTooMany)
}

func TestP51CheckToken(t *testing.T) {
	long := "0123456789abcdefg"
	for name, l := range map[string][]string{
		"empty":                  {""},
		"17 bytes":               {long},
		"17 bytes, then a right": {long, "ab"},
		"a very long one":        {string(make([]byte, 1<<20))},
		"a byte twice":           {"a"},
		"the first byte twice":   {"\x00"},
		"the last byte twice":    {"\xff"},
		"twice":                  {"ab", "ab"},
		"twice, far away":        {"ab", "bc", "cd", "ab"},
		"16 bytes, twice":        {long[:16], long[:16]},
		"no text, twice":         {"\xff\xfe", "\xff\xfe"},
	} {
		wantCheck(t, name, with(l), api.ErrToken)
		wantCheck(t, name+", first", api.Vocab{Tokens: slices.Concat(with(l).Tokens[256:], singles().Tokens)}, api.ErrToken)
	}
	for name, l := range map[string][]string{
		"16 bytes":                       {long[:16], long[1:]},
		"each other's beginning":         {"ab", "abc", "abcd"},
		"no text":                        {"\xff\xfe", "\xff\xff", "\xef\xbf\xbd", "\xef\xbf\xbd\xef\xbf\xbd"},
		"zeros":                          {"\x00\x00", "\x00\x00\x00", "\x00a", "a\x00"},
		"of the same bytes, and of case": {"ab", "ba", "aB", "Ab"},
	} {
		wantCheck(t, name, with(l), api.OK)
	}
}

func TestP51CheckByte(t *testing.T) {
	wantCheck(t, "nothing", api.Vocab{}, api.ErrByte)
	wantCheck(t, "empty lists", api.Vocab{Tokens: [][]byte{}, Merges: []api.Merge{}}, api.ErrByte)
	for c := range 256 {
		v := singles()
		wantCheck(t, "one byte less", api.Vocab{Tokens: slices.Delete(clone(v).Tokens, c, c+1)}, api.ErrByte)
		v.Tokens[c] = []byte("ab")
		wantCheck(t, "another one in its place", v, api.ErrByte)
		wantCheck(t, "and elsewhere", api.Vocab{Tokens: append(v.Tokens, []byte{byte(c)})}, api.OK)
	}
}

func TestP51CheckMerge(t *testing.T) {
	ab := api.Merge{A: 97, B: 98, To: 256}
	for _, bad := range []api.Merge{
		{A: 97, B: 98, To: 257},
		{A: 97, B: 98, To: 97},
		{A: 98, B: 97, To: 256},
		{A: 97, B: 97, To: 256},
		{A: 97, B: 256, To: 256},
		{A: 256, B: 98, To: 256},
		{A: 256, B: 256, To: 256},
		{A: 256, B: 99, To: 256},
		{A: 256, B: 99, To: 258}, // abd
		{A: 100, B: 101, To: 257},
		{A: 100, B: 101, To: 259},
		{A: 100, B: 101, To: 0},
		{A: 259, B: 97, To: 259}, // too long for any token
		{A: 259, B: 259, To: 0},
		{},
	} {
		tokens := []string{"ab", "abc", "abd", "0123456789abcdef"}
		wantCheck(t, "a wrong merge", with(tokens, bad), api.ErrMerge)
		wantCheck(t, "a wrong merge behind a right one", with(tokens, api.Merge{A: 256, B: 99, To: 257}, bad), api.ErrMerge)
		wantCheck(t, "a wrong merge ahead of a right one", with(tokens, bad, ab), api.ErrMerge)
		wantCheck(t, "the right ones", with(tokens, ab, api.Merge{A: 256, B: 99, To: 257}, api.Merge{A: 256, B: 100, To: 258}), api.OK)
	}
}

func TestP51CheckMergeIndices(t *testing.T) {
	right := api.Merge{A: 97, B: 98, To: 256}
	for _, n := range []int{-1, -97, -256, 257, 258, 512, 513, 256 + 97, 1 << 32, 1<<32 + 97, math.MaxInt32, math.MinInt32, math.MaxInt, math.MinInt} {
		a, b, to := right, right, right
		a.A, b.B, to.To = n, n, n
		for _, m := range []api.Merge{a, b, to, {A: n, B: n, To: n}} {
			wantCheck(t, "index "+strconv.Itoa(n), with([]string{"ab"}, m), api.ErrMerge)
		}
	}
	v := full(255)
	v.Tokens = append(v.Tokens, []byte("ab"))
	wantCheck(t, "the last index", api.Vocab{Tokens: v.Tokens, Merges: []api.Merge{{A: 97, B: 98, To: 511}}}, api.OK)
	wantCheck(t, "an index beyond it", api.Vocab{Tokens: v.Tokens, Merges: []api.Merge{{A: 97, B: 98, To: 512}}}, api.ErrMerge)
}

func TestP51CheckMergeTwice(t *testing.T) {
	ab, cd := api.Merge{A: 97, B: 98, To: 256}, api.Merge{A: 99, B: 100, To: 257}
	tokens := []string{"ab", "cd"}
	wantCheck(t, "twice", with(tokens, ab, ab), api.ErrMerge)
	wantCheck(t, "twice, far away", with(tokens, ab, cd, ab), api.ErrMerge)
	wantCheck(t, "the last one twice", with(tokens, ab, cd, cd), api.ErrMerge)
	wantCheck(t, "once each", with(tokens, cd, ab), api.OK)
}

// TestP51CheckFirstError: of several errors the one that the chapter names first.
func TestP51CheckFirstError(t *testing.T) {
	bad := api.Merge{A: -1}
	wantCheck(t, "token, byte and merge", api.Vocab{Tokens: [][]byte{{}}, Merges: []api.Merge{bad}}, api.ErrToken)
	wantCheck(t, "byte and merge", api.Vocab{Tokens: [][]byte{{1}}, Merges: []api.Merge{bad}}, api.ErrByte)
	wantCheck(t, "too many merges, and token", api.Vocab{Tokens: [][]byte{{}}, Merges: make([]api.Merge, 513)}, api.ErrTooMany)
	v := with([]string{"a"}, bad)
	wantCheck(t, "token and merge", v, api.ErrToken)
	v.Tokens[98] = []byte("cd")
	wantCheck(t, "a token twice, a byte that is missing, and merge", v, api.ErrToken)
	v = full(257)
	v.Tokens[3], v.Merges = nil, []api.Merge{bad}
	wantCheck(t, "all", v, api.ErrTooMany)
}

func TestP51BuildKnown(t *testing.T) {
	for _, x := range []struct {
		pairs  []api.Pair
		tokens []string
		to     []int
	}{
		{nil, nil, nil},
		{[]api.Pair{}, nil, nil},
		{[]api.Pair{{A: 97, B: 98}}, []string{"ab"}, []int{256}},
		{[]api.Pair{{A: 0, B: 0}}, []string{"\x00\x00"}, []int{256}},
		{[]api.Pair{{A: 255, B: 0}, {A: 0, B: 255}}, []string{"\xff\x00", "\x00\xff"}, []int{256, 257}},
		{[]api.Pair{{A: 97, B: 98}, {A: 256, B: 99}, {A: 98, B: 99}, {A: 97, B: 258}}, []string{"ab", "abc", "bc"}, []int{256, 257, 258, 257}},
		{[]api.Pair{{A: 97, B: 97}, {A: 256, B: 97}, {A: 97, B: 256}, {A: 256, B: 256}, {A: 257, B: 97}}, []string{"aa", "aaa", "aaaa"}, []int{256, 257, 257, 258, 258}},
		{[]api.Pair{{A: 1, B: 1}, {A: 256, B: 256}, {A: 257, B: 257}, {A: 258, B: 258}}, []string{"\x01\x01", "\x01\x01\x01\x01", "\x01\x01\x01\x01\x01\x01\x01\x01", "\x01\x01\x01\x01\x01\x01\x01\x01\x01\x01\x01\x01\x01\x01\x01\x01"}, []int{256, 257, 258, 259}},
	} {
		w := with(x.tokens)
		for i, p := range x.pairs {
			w.Merges = append(w.Merges, api.Merge{A: p.A, B: p.B, To: x.to[i]})
		}
		v, e := vocab.Build(x.pairs)
		wantVocab(t, "build", v, e, w, api.OK)
		wantBuild(t, "build", x.pairs, api.OK)
	}
}

func TestP51BuildMerge(t *testing.T) {
	ab := api.Pair{A: 97, B: 98}
	for _, n := range []int{-1, -256, 256, 257, 512, 1 << 32, 1<<32 + 97, math.MaxInt, math.MinInt} {
		for _, p := range []api.Pair{{A: n, B: 98}, {A: 97, B: n}, {A: n, B: n}} {
			wantBuild(t, "index "+strconv.Itoa(n), []api.Pair{p}, api.ErrMerge)
			wantBuild(t, "index "+strconv.Itoa(n)+", then a right pair", []api.Pair{p, ab}, api.ErrMerge)
		}
	}
	wantBuild(t, "a token that is new", []api.Pair{ab, {A: 256, B: 99}}, api.OK)
	wantBuild(t, "a token that comes later", []api.Pair{ab, {A: 257, B: 99}}, api.ErrMerge)
	wantBuild(t, "a token of which it is part", []api.Pair{{A: 97, B: 256}}, api.ErrMerge)
	wantBuild(t, "no token was new", []api.Pair{{A: 97, B: 97}, {A: 256, B: 97}, {A: 97, B: 256}, {A: 258, B: 97}}, api.ErrMerge)
	wantBuild(t, "twice", []api.Pair{ab, ab}, api.ErrMerge)
	wantBuild(t, "twice, far away", []api.Pair{ab, {A: 1, B: 2}, {A: 98, B: 97}, ab}, api.ErrMerge)
	wantBuild(t, "the other way round", []api.Pair{ab, {A: 98, B: 97}}, api.OK)
}

func TestP51BuildToken(t *testing.T) {
	l := []api.Pair{{A: 1, B: 1}, {A: 256, B: 256}, {A: 257, B: 257}, {A: 258, B: 1}} // of 2, 4, 8, 9 bytes
	wantBuild(t, "9 bytes", l, api.OK)
	wantBuild(t, "16 bytes", append(slices.Clone(l), api.Pair{A: 258, B: 258}), api.OK)
	for _, p := range []api.Pair{{A: 258, B: 259}, {A: 259, B: 258}, {A: 259, B: 259}} {
		wantBuild(t, "17 bytes or more", append(slices.Clone(l), p), api.ErrToken)
		wantBuild(t, "and others behind it", append(slices.Clone(l), p, api.Pair{A: -1}), api.ErrToken)
	}
}

func TestP51BuildTooManyMerges(t *testing.T) {
	l := rows()
	wantBuild(t, "511 merges", l[:511], api.OK)
	wantBuild(t, "512 merges", l[:512], api.OK)
	wantBuild(t, "513 merges", l[:513], api.ErrTooMany)
	wantBuild(t, "600 merges", l, api.ErrTooMany)
	v, _ := built(l[:512])
	last := func(c byte, n int) int { return find(v.Tokens, bytes.Repeat([]byte{c}, n)) }
	for _, x := range []struct {
		what string
		p    api.Pair
		want api.Errno
	}{
		{"a new pair, of a new token", api.Pair{A: 97, B: 98}, api.ErrTooMany},
		{"a pair that is there", l[0], api.ErrMerge},
		{"the last pair once more", l[511], api.ErrMerge},
		{"an index that is wrong", api.Pair{A: 0, B: len(v.Tokens)}, api.ErrMerge},
		{"too long", api.Pair{A: last(0, 16), B: 0}, api.ErrToken},
	} {
		wantBuild(t, "after 512 merges "+x.what, append(slices.Clone(l[:512]), x.p), x.want)
	}
}

func TestP51BuildTooManyTokens(t *testing.T) {
	l := manyTokens()
	wantBuild(t, "511 tokens", l[:255], api.OK)
	wantBuild(t, "512 tokens", l, api.OK)
	v, _ := built(l)
	if len(v.Tokens) != 512 {
		t.Fatal(len(v.Tokens))
	}
	old := api.Pair{A: 0, B: 256} // 00 00 00, of its other parts
	wantBuild(t, "a merge to a token that is there", append(slices.Clone(l), old), api.OK)
	for _, x := range []struct {
		what string
		p    api.Pair
		want api.Errno
	}{
		{"a token more", api.Pair{A: 97, B: 98}, api.ErrTooMany},
		{"a longer token more", api.Pair{A: 511, B: 511}, api.ErrTooMany},
		{"an index that is wrong", api.Pair{A: 512, B: 0}, api.ErrMerge},
		{"a pair that is there", l[7], api.ErrMerge},
	} {
		wantBuild(t, "after 512 tokens "+x.what, append(slices.Clone(l), x.p), x.want)
		wantBuild(t, "after 512 tokens, and one merge more, "+x.what, append(slices.Clone(l), old, x.p), x.want)
	}
	long := []api.Pair{{A: 1, B: 1}, {A: 256, B: 256}, {A: 257, B: 257}, {A: 258, B: 258}}
	for c := range 252 {
		long = append(long, api.Pair{A: 0, B: c})
	}
	wantBuild(t, "512 tokens, one of them of 16 bytes", long, api.OK)
	wantBuild(t, "too long, and one too many", append(long, api.Pair{A: 259, B: 0}), api.ErrToken)
}

// TestP51BuildFirstPair: the error is that of the first pair that is wrong, whatever comes behind it.
func TestP51BuildFirstPair(t *testing.T) {
	l := []api.Pair{{A: 1, B: 1}, {A: 256, B: 256}, {A: 257, B: 257}, {A: 258, B: 258}}
	long, none := api.Pair{A: 259, B: 1}, api.Pair{A: 999, B: 1}
	wantBuild(t, "too long, then none", append(slices.Clone(l), long, none), api.ErrToken)
	wantBuild(t, "none, then too long", append(slices.Clone(l), none, long), api.ErrMerge)
	wantBuild(t, "none, then too many", slices.Insert(rows(), 100, none), api.ErrMerge)
	wantBuild(t, "too many, then none", slices.Insert(rows(), 550, none), api.ErrTooMany)
}

// TestP52Valid also has pairs that are wrong, so that each list ends at another place.
func TestP52Valid(t *testing.T) {
	x := dice(2)
	seen := map[api.Errno]int{}
	for range 300 {
		l := x.pairs(x.roll(40), 6)
		v, e := vocab.Build(l)
		w, f := built(l)
		wantVocab(t, "build", v, e, w, f)
		seen[e]++
		if e == api.OK && (checked(v) != api.OK || vocab.Check(v) != api.OK) {
			t.Errorf("%v: no vocabulary: error %d, %d", l, checked(v), vocab.Check(v))
		}
	}
	if seen[api.OK] == 0 || seen[api.ErrMerge] == 0 {
		t.Error("not each kind came:", seen)
	}
	for _, l := range [][]api.Pair{nil, rows()[:512], manyTokens()} {
		if v, e := vocab.Build(l); e != api.OK || checked(v) != api.OK {
			t.Error(len(l), e)
		}
	}
}

func TestP51PutKnown(t *testing.T) {
	var want []byte
	want = append(want, 0x82, 2) // 258
	for c := range 256 {
		want = append(want, 1, byte(c))
	}
	want = append(want, "\x02ab\x03abc\x02"...)
	want = append(want, 97, 98, 0x80, 2, 0x80, 2, 99, 0x81, 2)
	b, e := vocab.Put(with([]string{"ab", "abc"}, api.Merge{A: 97, B: 98, To: 256}, api.Merge{A: 256, B: 99, To: 257}))
	if !bytes.Equal(b, want) || e != api.OK {
		t.Errorf("% x, error %d, want % x", b, e, want)
	}
	wantGet(t, "known bytes", want, api.OK)
}

func TestP53ReadBack(t *testing.T) {
	for _, x := range vocabs(t) {
		b, e := vocab.Put(x.v)
		if e != api.OK || !bytes.Equal(b, written(x.v)) {
			t.Errorf("put of %s: error %d, % x", x.name, e, b)
		}
		w, e := vocab.Get(b)
		wantVocab(t, x.name, w, e, x.v, api.OK)
	}
}

// TestP53OneEncoding: what is read is, byte for byte, what Put would have written.
func TestP53OneEncoding(t *testing.T) {
	x := dice(3)
	read := 0
	for _, s := range vocabs(t) {
		for range 50 {
			b := x.changed(written(s.v))
			if w, e := vocab.Get(b); e == api.OK {
				again, f := vocab.Put(w)
				if !bytes.Equal(again, b) || f != api.OK {
					t.Errorf("% x was read, error %d, and put as % x", b, f, again)
				}
				read++
			}
		}
	}
	if read == 0 {
		t.Error("nothing was read")
	}
}

// changed is b with a few bytes changed, cut off, put in or taken out, or with none.
func (x *dice) changed(b []byte) []byte {
	for range x.roll(3) {
		i := x.roll(len(b) + 1)
		switch x.roll(5) {
		case 0:
			b = b[:i]
		case 1:
			b = slices.Insert(b, i, byte(x.roll(3)*x.roll(256)))
		case 2:
			b = slices.Delete(b, i, min(i+1, len(b)))
		case 3:
			copy(b[i:], []byte{byte(x.roll(256))})
		case 4:
			copy(b[x.roll(len(b)+1):], b[i:])
		}
	}
	return b
}

func TestP51GetChance(t *testing.T) {
	x := dice(4)
	seen := map[api.Errno]int{}
	for _, s := range vocabs(t) {
		for range 60 {
			seen[wantRef(t, s.name, x.changed(written(s.v)))]++
		}
	}
	for _, e := range []api.Errno{api.OK, api.ErrEnd, api.ErrLong, api.ErrCorrupt, api.ErrToken, api.ErrMerge} {
		if seen[e] == 0 {
			t.Error("no case of error", int(e))
		}
	}
}

// TestP51GetTruncated: bytes that end too early are ErrEnd wherever they end.
func TestP51GetTruncated(t *testing.T) {
	b := written(with([]string{"ab", "0123456789abcdef"}, api.Merge{A: 97, B: 98, To: 256}))
	for i := range b {
		wantGet(t, "cut at "+strconv.Itoa(i), b[:i:i], api.ErrEnd)
		wantGet(t, "cut at "+strconv.Itoa(i)+", with spare capacity", b[:i], api.ErrEnd)
	}
	wantGet(t, "nil", nil, api.ErrEnd)
	wantGet(t, "empty", []byte{}, api.ErrEnd)
}

func TestP51GetLeft(t *testing.T) {
	b := written(with([]string{"ab"}, api.Merge{A: 97, B: 98, To: 256}))
	for _, tail := range []string{"\x00", "\x80", "\xff\xff", string(b), string(make([]byte, 1000))} {
		wantGet(t, "bytes behind it", append(slices.Clone(b), tail...), api.ErrCorrupt)
	}
	for what, v := range map[string]api.Vocab{"no bytes": {}, "a token that is none": with([]string{""}), "a merge that is none": with(nil, api.Merge{})} {
		wantGet(t, "bytes behind "+what, append(written(v), 0), api.ErrCorrupt)
	}
}

// TestP51GetWrong: what was written as the chapter says, and is no vocabulary.
func TestP51GetWrong(t *testing.T) {
	ab := api.Merge{A: 97, B: 98, To: 256}
	for _, x := range []struct {
		what string
		v    api.Vocab
		want api.Errno
	}{
		{"nothing", api.Vocab{}, api.ErrByte},
		{"255 bytes", api.Vocab{Tokens: singles().Tokens[1:]}, api.ErrByte},
		{"an empty token", with([]string{""}), api.ErrToken},
		{"a token twice", with([]string{"ab", "ab"}), api.ErrToken},
		{"a token of 17 bytes", with([]string{"0123456789abcdefg"}), api.ErrLong},
		{"513 tokens", full(257), api.ErrLong},
		{"513 tokens that are none", api.Vocab{Tokens: make([][]byte, 513)}, api.ErrLong},
		{"512 tokens that are none", api.Vocab{Tokens: make([][]byte, 512)}, api.ErrToken},
		{"513 merges", api.Vocab{Tokens: singles().Tokens, Merges: make([]api.Merge, 513)}, api.ErrLong},
		{"512 merges that are none", api.Vocab{Tokens: singles().Tokens, Merges: make([]api.Merge, 512)}, api.ErrMerge},
		{"a merge to another token", with([]string{"ab", "cd"}, api.Merge{A: 97, B: 98, To: 257}), api.ErrMerge},
		{"a merge twice", with([]string{"ab"}, ab, ab), api.ErrMerge},
		{"index 257", with([]string{"ab"}, api.Merge{A: 97, B: 98, To: 257}), api.ErrMerge},
		{"index 512 of A", with([]string{"ab"}, api.Merge{A: 512, B: 98, To: 256}), api.ErrMerge},
		{"index 512 of B", with([]string{"ab"}, api.Merge{A: 97, B: 512, To: 256}), api.ErrMerge},
		{"index 512 of To", with([]string{"ab"}, api.Merge{A: 97, B: 98, To: 512}), api.ErrMerge},
		{"index 513 of A", with([]string{"ab"}, api.Merge{A: 513, B: 98, To: 256}), api.ErrLong},
		{"index 513 of B", with([]string{"ab"}, api.Merge{A: 97, B: 513, To: 256}), api.ErrLong},
		{"index 513 of To", with([]string{"ab"}, api.Merge{A: 97, B: 98, To: 513}), api.ErrLong},
		{"index -1", with([]string{"ab"}, api.Merge{A: 97, B: 98, To: -1}), api.ErrLong},
		{"an index that an int32 can't hold", with([]string{"ab"}, api.Merge{A: 1<<32 + 97, B: 98, To: 256}), api.ErrLong},
		{"the greatest index", with([]string{"ab"}, api.Merge{A: 97, B: math.MaxInt, To: 256}), api.ErrLong},
	} {
		wantGet(t, x.what, written(x.v), x.want)
	}
}

// TestP51GetNumbers: an integer that is written too long, or is too great, at each place at which one stands.
func TestP51GetNumbers(t *testing.T) {
	b := written(with([]string{"ab"}, api.Merge{A: 97, B: 98, To: 256}))
	places := []int{0, 2, 2 + 2*256, len(b) - 5, len(b) - 4, len(b) - 3, len(b) - 2}
	for _, i := range places {
		for _, n := range []string{"\x81\x00", "\x80\x80\x00", "\x81\x04", "\xff\xff\xff\xff\xff\xff\xff\xff\x7f", "\xff\xff\xff\xff\xff\xff\xff\xff\xff\x01", "\xff\xff\xff\xff\xff\xff\xff\xff\xff\x02"} {
			wantGet(t, "a wrong integer at "+strconv.Itoa(i), append(slices.Clone(b[:i]), n...), api.ErrLong)
			wantGet(t, "a wrong integer in place of one at "+strconv.Itoa(i), slices.Concat(b[:i], []byte(n), b[i+1:]), api.ErrLong)
		}
	}
	wantGet(t, "512 tokens, and no more bytes", []byte{0x80, 4}, api.ErrEnd)
	wantGet(t, "513 tokens, and no more bytes", []byte{0x81, 4}, api.ErrLong)
}

// TestP51GetFirstError: of several errors the one that the chapter names first.
func TestP51GetFirstError(t *testing.T) {
	wrong := written(with([]string{"a", ""}, api.Merge{A: 300, B: 300, To: 300}))
	wantGet(t, "no vocabulary", wrong, api.ErrToken)
	wantGet(t, "no vocabulary, with bytes behind it", append(slices.Clone(wrong), 9), api.ErrCorrupt)
	wantGet(t, "no vocabulary, cut off", wrong[:len(wrong)-1], api.ErrEnd)
	wantGet(t, "too long a token, with nothing behind it", []byte{1, 17}, api.ErrLong)
	wantGet(t, "too long a token, then the end", []byte("\x02\x11abc"), api.ErrLong)
	wantGet(t, "the end, where too long a token would come", []byte("\x02\x02a"), api.ErrEnd)
	wantGet(t, "no bytes, and the end", []byte{0}, api.ErrEnd)
	wantGet(t, "no bytes, and too many merges", []byte{0, 0x81, 4}, api.ErrLong)
	wantGet(t, "no bytes, and bytes behind them", []byte{0, 0, 0}, api.ErrCorrupt)
	wantGet(t, "no bytes", []byte{0, 0}, api.ErrByte)
}

// spoil overwrites a list with its spare capacity.
func spoil(b []byte) {
	b = b[:cap(b)]
	for i := range b {
		b[i] ^= 0x55
	}
}

// spoilVocab overwrites all memory of a vocabulary.
func spoilVocab(v api.Vocab) {
	for _, token := range v.Tokens {
		spoil(token)
	}
	clear(v.Tokens[:cap(v.Tokens)])
	clear(v.Merges[:cap(v.Merges)])
}

// TestP3TakesNothing: what is passed is as it was, with what lies behind it, which is no part of it.
func TestP3TakesNothing(t *testing.T) {
	pairs := []api.Pair{{A: 97, B: 98}, {A: 256, B: 99}, {A: 1, B: 2}, {A: 3, B: 4}}
	oldPairs := slices.Clone(pairs)
	if v, e := vocab.Build(pairs[:2]); e != api.OK || len(v.Merges) != 2 || !slices.Equal(pairs, oldPairs) {
		t.Error("pairs", e, pairs)
	}
	room := with([]string{"ab", "abc", "zz", ""}, api.Merge{A: 97, B: 98, To: 256}, api.Merge{A: 256, B: 99, To: 257}, api.Merge{})
	text := []byte("abz") // the last byte is no part of the token
	room.Tokens[256] = text[:2]
	old := clone(room)
	v := api.Vocab{Tokens: room.Tokens[:258], Merges: room.Merges[:2]}
	wantCheck(t, "a part", v, api.OK)
	if !same(room, old) || string(text) != "abz" {
		t.Error("a vocabulary was changed")
	}
	b := append(written(v), 1, 2, 3)
	was := slices.Clone(b)
	wantGet(t, "a part of bytes", b[:len(b)-3], api.OK)
	if !bytes.Equal(b, was) {
		t.Error("bytes were changed")
	}
}

// TestP3IsNew: nothing that is returned shares memory with what was passed, with another result, or with another call's.
func TestP3IsNew(t *testing.T) {
	pairs := []api.Pair{{A: 97, B: 98}, {A: 256, B: 99}, {A: 98, B: 99}, {A: 97, B: 258}}
	want, _ := built(pairs)
	first, _ := vocab.Build(pairs)
	second, _ := vocab.Build(pairs)
	spoilVocab(first)
	wantVocab(t, "another vocabulary", second, api.OK, want, api.OK)
	third, _ := vocab.Build(pairs)
	wantVocab(t, "a later vocabulary", third, api.OK, want, api.OK)
	b, _ := vocab.Put(second)
	c, _ := vocab.Put(second)
	spoil(b)
	wantVocab(t, "the vocabulary that was put", second, api.OK, want, api.OK)
	if !bytes.Equal(c, written(want)) {
		t.Error("other bytes were changed")
	}
	read, _ := vocab.Get(c)
	other, _ := vocab.Get(c)
	spoilVocab(read)
	if !bytes.Equal(c, written(want)) {
		t.Error("the bytes that were read were changed")
	}
	spoil(c)
	wantVocab(t, "what was read", other, api.OK, want, api.OK)
}

// TestP3OwnTokens: no two tokens of an answer share memory, nor does one grow into another.
func TestP3OwnTokens(t *testing.T) {
	want, _ := built(rows()[:200])
	v, _ := vocab.Build(rows()[:200])
	w, _ := vocab.Get(written(want))
	for _, x := range []api.Vocab{v, w} {
		for i := range x.Tokens {
			spoil(x.Tokens[i])
			old := bytes.Clone(x.Tokens[i])
			x.Tokens[i] = bytes.Clone(want.Tokens[i])
			if !same(x, want) {
				t.Fatalf("token %d shares memory with another one", i)
			}
			if len(old) != len(want.Tokens[i]) {
				t.Fatalf("token %d has another length", i)
			}
		}
	}
}

// TestP1Long ends soon, however long the input is.
func TestP1Long(t *testing.T) {
	for _, c := range []byte{0, 1, 2, 16, 17, 0x7f, 0x80, 0xff} {
		wantRef(t, "many bytes", bytes.Repeat([]byte{c}, 1<<20))
		wantRef(t, "many bytes behind a number", append([]byte{0x80, 4}, bytes.Repeat([]byte{c}, 1<<20)...))
	}
	wantBuild(t, "many pairs", make([]api.Pair, 1<<20), api.ErrMerge)
	wantCheck(t, "many tokens", api.Vocab{Tokens: make([][]byte, 1<<20)}, api.ErrTooMany)
	wantCheck(t, "many merges", api.Vocab{Merges: make([]api.Merge, 1<<20)}, api.ErrTooMany)
	wantCheck(t, "long tokens", api.Vocab{Tokens: slices.Repeat([][]byte{make([]byte, 1<<20)}, 512)}, api.ErrToken)
}
