package mem_test

import (
	"math"
	"slices"
	"testing"

	"verbatim/api"
	"verbatim/mem"
)

const (
	maxPosts = 4096
	maxSpots = 4096
	maxDocs  = 1 << 32
)

// doc is what is added.
type doc struct {
	doc    int64
	tokens []int
	starts []int
}

// plain is the chapter's words: a list of documents, which is gone through each time.
type plain struct {
	docs []doc
}

func (m *plain) add(d doc) api.Errno {
	if len(m.docs) >= maxPosts || len(d.tokens) > maxSpots {
		return api.ErrTooMany
	}
	wrong := d.doc < 0 || d.doc > maxDocs || len(d.tokens) != len(d.starts)
	wrong = wrong || len(m.docs) > 0 && d.doc <= m.docs[len(m.docs)-1].doc
	wrong = wrong || slices.ContainsFunc(d.tokens, func(token int) bool { return token < 0 })
	for i, start := range d.starts {
		wrong = wrong || start < 0 || i > 0 && start <= d.starts[i-1]
	}
	if wrong {
		return api.ErrArg
	}
	m.docs = append(m.docs, doc{d.doc, slices.Clone(d.tokens), slices.Clone(d.starts)})
	return api.OK
}

func (m *plain) terms() []int {
	var l []int
	for _, d := range m.docs {
		l = append(l, d.tokens...)
	}
	slices.Sort(l)
	return slices.Compact(l)
}

func (m *plain) posts(token int) []api.Post {
	var l []api.Post
	for _, d := range m.docs {
		p := api.Post{Doc: d.doc}
		for i, other := range d.tokens {
			if other == token {
				p.Spots = append(p.Spots, api.Spot{Pos: int64(i), At: int64(d.starts[i])})
			}
		}
		if len(p.Spots) > 0 {
			l = append(l, p)
		}
	}
	return l
}

// dice are numbers that look like chance and are the same each time.
type dice uint64

func (x *dice) next() uint64 {
	*x = *x*6364136223846793005 + 1442695040888963407
	return uint64(*x) ^ uint64(*x)>>29
}

func (x *dice) roll(n int) int { return int(x.next() >> 33 % uint64(n)) }

// doc is one from a number on, of up to n tokens that may be added.
func (x *dice) doc(from int64, n int) doc {
	d := doc{doc: from + int64(x.roll(3))}
	start := x.roll(3)
	for range x.roll(n + 1) {
		d.tokens = append(d.tokens, x.roll(6))
		d.starts = append(d.starts, start)
		start += 1 + x.roll(4)
	}
	return d
}

// spoilt is a document with something wrong, or not.
func (x *dice) spoilt(d doc) doc {
	if len(d.tokens) == 0 {
		return d
	}
	i := x.roll(len(d.tokens))
	switch x.roll(8) {
	case 0:
		d.doc -= 4
	case 1:
		d.tokens[i] = -1 - x.roll(2)
	case 2:
		d.starts[i] -= x.roll(5)
	case 3:
		d.tokens = d.tokens[:i]
	case 4:
		d.starts = d.starts[:i]
	}
	return d
}

// many is n documents, each with one token.
func many(n int) []doc {
	var l []doc
	for i := range n {
		l = append(l, doc{int64(i), []int{i % 3}, []int{i}})
	}
	return l
}

// long is a document of n tokens.
func long(at int64, n int) doc {
	d := doc{doc: at}
	for i := range n {
		d.tokens = append(d.tokens, i%7)
		d.starts = append(d.starts, 2*i)
	}
	return d
}

// same tells whether postings are the same ones, a list without any being nil or not.
func same(l, m []api.Post) bool {
	return slices.EqualFunc(l, m, func(p, q api.Post) bool {
		return p.Doc == q.Doc && slices.Equal(p.Spots, q.Spots)
	})
}

// wantSame asks everything of a Mem.
func wantSame(t *testing.T, what string, m *mem.Mem, want *plain) {
	t.Helper()
	if n := m.Many(); n != len(want.docs) {
		t.Errorf("%s: Many() = %d, want %d", what, n, len(want.docs))
	}
	terms := want.terms()
	if l := m.Terms(); !slices.Equal(l, terms) {
		t.Errorf("%s: Terms() = %d, want %d", what, l, terms)
	}
	for _, token := range slices.Concat(terms, []int{-1, 0, 1, 8, math.MinInt, math.MaxInt}) {
		if l := m.Posts(token); !same(l, want.posts(token)) {
			t.Errorf("%s: Posts(%d) = %d, want %d", what, token, l, want.posts(token))
		}
	}
}

// wantAdd adds a document to both.
func wantAdd(t *testing.T, what string, m *mem.Mem, want *plain, d doc, e api.Errno) {
	t.Helper()
	if got := want.add(d); got != e {
		t.Fatalf("%s: the words give %d, want %d", what, got, e)
	}
	if got := m.Add(d.doc, d.tokens, d.starts); got != e {
		t.Errorf("%s: Add = %d, want %d", what, got, e)
	}
}

// filled is a Mem of these documents, all of which may be added, and its words.
func filled(t *testing.T, l ...doc) (*mem.Mem, *plain) {
	t.Helper()
	m, want := mem.New(), &plain{}
	for _, d := range l {
		wantAdd(t, "filled", m, want, d, api.OK)
	}
	return m, want
}

func TestP121Empty(t *testing.T) {
	m := mem.New()
	if m == nil {
		t.Fatal("New() = nil")
	}
	wantSame(t, "empty", m, &plain{})
}

func TestP121Known(t *testing.T) {
	m := mem.New()
	if e := m.Add(3, []int{5, 7, 5}, []int{0, 1, 4}); e != api.OK {
		t.Fatal(e)
	}
	if e := m.Add(4, nil, []int{}); e != api.OK {
		t.Fatal(e)
	}
	if e := m.Add(9, []int{2, 5}, []int{6, 9}); e != api.OK {
		t.Fatal(e)
	}
	for token, want := range map[int][]api.Post{
		2: {{Doc: 9, Spots: []api.Spot{{Pos: 0, At: 6}}}},
		4: nil,
		5: {{Doc: 3, Spots: []api.Spot{{Pos: 0, At: 0}, {Pos: 2, At: 4}}}, {Doc: 9, Spots: []api.Spot{{Pos: 1, At: 9}}}},
		7: {{Doc: 3, Spots: []api.Spot{{Pos: 1, At: 1}}}},
	} {
		if l := m.Posts(token); !same(l, want) {
			t.Errorf("Posts(%d) = %d, want %d", token, l, want)
		}
	}
	if l := m.Terms(); !slices.Equal(l, []int{2, 5, 7}) {
		t.Errorf("Terms() = %d", l)
	}
	if n := m.Many(); n != 3 {
		t.Errorf("Many() = %d, want 3", n)
	}
}

// TestP121Numbers has those that may just be.
func TestP121Numbers(t *testing.T) {
	m, want := filled(t,
		doc{0, []int{0}, []int{0}},
		doc{1, []int{math.MaxInt, 0, math.MaxInt}, []int{0, 1, math.MaxInt}},
		doc{2, nil, nil},
		doc{maxDocs - 1, []int{0}, []int{math.MaxInt}},
		doc{maxDocs, []int{1, 1, 1}, []int{0, 1, 2}},
	)
	wantSame(t, "numbers", m, want)
	wantAdd(t, "after the greatest document", m, want, doc{maxDocs, nil, nil}, api.ErrArg)
	wantAdd(t, "beyond the greatest document", m, want, doc{maxDocs + 1, nil, nil}, api.ErrArg)
}

// wrongs are documents that may not come behind document 5.
func wrongs() map[string]doc {
	return map[string]doc{
		"the last one":             {5, []int{1}, []int{0}},
		"ahead of the last one":    {4, []int{1}, []int{0}},
		"0":                        {0, nil, nil},
		"negative":                 {-1, nil, nil},
		"the least one":            {math.MinInt64, nil, nil},
		"too great":                {maxDocs + 1, nil, nil},
		"the greatest one":         {math.MaxInt64, []int{1}, []int{0}},
		"no start":                 {6, []int{1}, nil},
		"no token":                 {6, nil, []int{1}},
		"a start too few":          {6, []int{1, 2, 3}, []int{1, 2}},
		"a start too many":         {6, []int{1, 2, 3}, []int{1, 2, 3, 4}},
		"too many starts":          {6, long(6, maxSpots).tokens, long(6, maxSpots+1).starts},
		"the first token negative": {6, []int{-1, 2, 3}, []int{1, 2, 3}},
		"a token negative":         {6, []int{1, -1, 3}, []int{1, 2, 3}},
		"the last token negative":  {6, []int{1, 2, math.MinInt}, []int{1, 2, 3}},
		"the first start negative": {6, []int{1, 2, 3}, []int{-1, 2, 3}},
		"the only start negative":  {6, []int{1}, []int{math.MinInt}},
		"all starts negative":      {6, []int{1, 2}, []int{-3, -2}},
		"a start twice":            {6, []int{1, 2, 3}, []int{0, 0, 1}},
		"the last start twice":     {6, []int{1, 2, 3}, []int{0, 1, 1}},
		"0 at last":                {6, []int{1, 2, 3}, []int{1, 2, 0}},
		"starts that fall":         {6, []int{1, 2}, []int{math.MaxInt, 5}},
	}
}

func TestP121Wrong(t *testing.T) {
	for what, d := range wrongs() {
		m, want := filled(t, doc{2, []int{1, 3}, []int{0, 2}}, doc{5, []int{1}, []int{4}})
		wantAdd(t, what, m, want, d, api.ErrArg)
		wantSame(t, what, m, want)
		wantAdd(t, what+", another one", m, want, doc{6, []int{1, 2}, []int{0, 1}}, api.OK)
		wantSame(t, what+", another one", m, want)
	}
}

// TestP121WrongFirst has nothing ahead of it that a document could be too low for.
func TestP121WrongFirst(t *testing.T) {
	for _, d := range []doc{{-1, nil, nil}, {math.MinInt64, []int{1}, []int{0}}, {maxDocs + 1, nil, nil}} {
		m, want := filled(t)
		wantAdd(t, "first", m, want, d, api.ErrArg)
		wantSame(t, "first", m, want)
		wantAdd(t, "first, another one", m, want, doc{0, []int{1}, []int{0}}, api.OK)
	}
}

func TestP121LongDocument(t *testing.T) {
	m, want := filled(t, long(0, maxSpots-1), long(1, maxSpots))
	wantAdd(t, "a token too many", m, want, long(2, maxSpots+1), api.ErrTooMany)
	wantSame(t, "long", m, want)
	wantAdd(t, "once more", m, want, long(2, maxSpots), api.OK)
	wantSame(t, "once more", m, want)
}

func TestP121ManyDocuments(t *testing.T) {
	m, want := filled(t, many(maxPosts-1)...)
	wantAdd(t, "a wrong one ahead of the last", m, want, doc{-1, nil, nil}, api.ErrArg)
	wantAdd(t, "the last one", m, want, doc{maxPosts, nil, nil}, api.OK)
	wantAdd(t, "one too many", m, want, doc{maxPosts + 1, nil, nil}, api.ErrTooMany)
	wantAdd(t, "one too many with a token", m, want, doc{maxPosts + 2, []int{1}, []int{0}}, api.ErrTooMany)
	wantSame(t, "many", m, want)
}

// TestP2Order has several errors at once.
func TestP2Order(t *testing.T) {
	m, want := filled(t, many(maxPosts)...)
	for what, d := range wrongs() {
		wantAdd(t, what+", one too many", m, want, d, api.ErrTooMany)
	}
	m, want = filled(t, doc{5, nil, nil})
	for what, d := range wrongs() {
		d.tokens = slices.Concat(d.tokens, make([]int, maxSpots+1))
		wantAdd(t, what+", too many tokens", m, want, d, api.ErrTooMany)
	}
	wantSame(t, "order", m, want)
}

// TestP121Chance adds documents that may be added and others, and asks everything in between.
func TestP121Chance(t *testing.T) {
	x := dice(12)
	var errs [4]int
	for range 400 {
		m, want := mem.New(), &plain{}
		next := int64(x.roll(2) * x.roll(1000))
		for range x.roll(12) {
			d := x.doc(next, 8)
			if x.roll(2) == 0 {
				d = x.spoilt(d)
			}
			e := want.add(d)
			if got := m.Add(d.doc, d.tokens, d.starts); got != e {
				t.Fatalf("Add(%v) = %d, want %d", d, got, e)
			}
			errs[e]++
			if e == api.OK {
				next = d.doc + 1
			}
			wantSame(t, "chance", m, want)
		}
	}
	if errs[api.OK] < 500 || errs[api.ErrArg] < 200 {
		t.Errorf("the dice gave %d", errs)
	}
}

// TestP121All has all ways to add three documents of a few kinds.
func TestP121All(t *testing.T) {
	var l []doc
	for at := range int64(4) {
		for _, tokens := range [][]int{nil, {0}, {1}, {0, 0}, {1, 0}, {0, -1}} {
			l = append(l, doc{at - 1, tokens, []int{0, 3}[:len(tokens)]})
		}
	}
	for _, a := range l {
		for _, b := range l {
			for _, c := range l {
				m, want := mem.New(), &plain{}
				for _, d := range []doc{a, b, c} {
					if e, got := want.add(d), m.Add(d.doc, d.tokens, d.starts); got != e {
						t.Fatalf("%v %v %v: Add(%v) = %d, want %d", a, b, c, d, got, e)
					}
				}
				wantSame(t, "all", m, want)
			}
		}
	}
}

// isValid is layer 9's words.
func isValid(l []api.Post) bool {
	if len(l) > maxPosts {
		return false
	}
	for i, p := range l {
		if p.Doc < 0 || p.Doc > maxDocs || i > 0 && p.Doc <= l[i-1].Doc || len(p.Spots) < 1 || len(p.Spots) > maxSpots {
			return false
		}
		for j, s := range p.Spots {
			if s.Pos < 0 || s.At < 0 || j > 0 && (s.Pos <= p.Spots[j-1].Pos || s.At <= p.Spots[j-1].At) {
				return false
			}
		}
	}
	return true
}

// wantWhole puts the documents together from all postings: nothing is there twice, and nothing is missing.
func wantWhole(t *testing.T, m *mem.Mem, docs []doc) {
	t.Helper()
	type place struct{ doc, pos int64 }
	type found struct {
		token int
		at    int64
	}
	all := map[place]found{}
	for _, token := range m.Terms() {
		l := m.Posts(token)
		if len(l) == 0 || !isValid(l) {
			t.Errorf("Posts(%d) = %d, which is not valid", token, l)
		}
		for _, p := range l {
			for _, s := range p.Spots {
				if old, is := all[place{p.Doc, s.Pos}]; is {
					t.Errorf("document %d has tokens %d and %d at %d", p.Doc, old.token, token, s.Pos)
				}
				all[place{p.Doc, s.Pos}] = found{token, s.At}
			}
		}
	}
	n := 0
	for _, d := range docs {
		n += len(d.tokens)
		for i, token := range d.tokens {
			if f, is := all[place{d.doc, int64(i)}]; !is || f != (found{token, int64(d.starts[i])}) {
				t.Errorf("document %d has %v at %d, want token %d at %d", d.doc, f, i, token, d.starts[i])
			}
		}
	}
	if n != len(all) {
		t.Errorf("the postings have %d tokens, want %d", len(all), n)
	}
}

func TestP122Chance(t *testing.T) {
	x := dice(122)
	for range 300 {
		m := mem.New()
		var docs []doc
		next := int64(0)
		for range x.roll(20) {
			d := x.doc(next, 12)
			next = d.doc + 1
			docs = append(docs, d)
			if e := m.Add(d.doc, d.tokens, d.starts); e != api.OK {
				t.Fatal(e)
			}
		}
		wantWhole(t, m, docs)
	}
}

func TestP122Limits(t *testing.T) {
	docs := slices.Concat(many(maxPosts-2), []doc{long(maxPosts, maxSpots), {maxDocs, []int{math.MaxInt}, []int{math.MaxInt}}})
	m, _ := filled(t, docs...)
	wantWhole(t, m, docs)
}

// TestP121ManyTokens has each token in one document only, or all documents in one token.
func TestP121ManyTokens(t *testing.T) {
	var docs []doc
	for i := range 40 {
		d := long(int64(i), maxSpots)
		for j := range d.tokens {
			d.tokens[j] = i*maxSpots + maxSpots - j
		}
		docs = append(docs, d)
	}
	m, _ := filled(t, docs...)
	wantWhole(t, m, docs)
	if l := m.Terms(); len(l) != 40*maxSpots || !slices.IsSorted(l) {
		t.Errorf("Terms() has %d tokens, rising: %t", len(l), slices.IsSorted(l))
	}
}

// room is a list with something behind its end.
func room(l []int) []int {
	return append(slices.Clone(l), 77, 78, 79)[:len(l)]
}

func TestP3TakesNothing(t *testing.T) {
	for _, d := range []doc{{6, []int{1, 2, 1}, []int{0, 4, 9}}, {6, nil, nil}, {6, []int{1}, nil}, {6, []int{2, 1}, []int{3, 3}}, {2, []int{2, 1}, []int{3, 4}}} {
		m, _ := filled(t, doc{5, []int{1}, []int{0}})
		tokens, starts := room(d.tokens), room(d.starts)
		m.Add(d.doc, tokens, starts)
		m.Terms()
		m.Posts(1)
		for what, l := range map[string][2][]int{"tokens": {tokens, d.tokens}, "starts": {starts, d.starts}} {
			if want := append(slices.Clone(l[1]), 77, 78, 79); !slices.Equal(l[0][:len(want)], want) {
				t.Errorf("%s of %v are %d behind the call", what, d, l[0][:len(want)])
			}
		}
	}
}

func TestP3KeepsNothing(t *testing.T) {
	m, want := mem.New(), &plain{}
	tokens, starts := []int{4, 2, 4}, []int{1, 2, 3}
	for i := range int64(3) {
		d := doc{i, tokens, starts}
		wantAdd(t, "keeps", m, want, d, api.OK)
		tokens[i], starts[2] = 9, starts[2]+5
		wantSame(t, "keeps", m, want)
	}
	clear(tokens)
	clear(starts)
	wantSame(t, "keeps at last", m, want)
}

// spoil writes over postings, and over the room behind them.
func spoil(l []api.Post) {
	l = l[:cap(l)]
	for i := range l {
		spots := l[i].Spots[:cap(l[i].Spots)]
		for j := range spots {
			spots[j] = api.Spot{Pos: -7, At: -8}
		}
		l[i] = api.Post{Doc: -9}
	}
}

func TestP3IsNew(t *testing.T) {
	x := dice(3)
	for range 100 {
		m, want := mem.New(), &plain{}
		next := int64(0)
		for range 6 {
			d := x.doc(next, 9)
			next = d.doc + 1
			wantAdd(t, "new", m, want, d, api.OK)
			terms := m.Terms()
			for _, token := range terms {
				spoil(m.Posts(token))
			}
			terms = terms[:cap(terms)]
			for i := range terms {
				terms[i] = -5
			}
			wantSame(t, "new", m, want)
		}
	}
}

// TestP3ApartIsNew has lists of one answer that are appended to.
func TestP3ApartIsNew(t *testing.T) {
	m, want := filled(t, long(0, 21), long(1, 21), long(2, 21))
	l := m.Posts(3)
	for i := range l {
		l[i].Spots = append(l[i].Spots, api.Spot{Pos: 99, At: 99})
	}
	for i, p := range want.posts(3) {
		if got := l[i].Spots[:len(p.Spots)]; !slices.Equal(got, p.Spots) {
			t.Errorf("document %d has %d, want %d", p.Doc, got, p.Spots)
		}
	}
	l = append(l, api.Post{Doc: 99})
	wantSame(t, "apart", m, want)
}

// TestP3SameAnswer asks again and again, since a map is gone through in another order each time.
func TestP3SameAnswer(t *testing.T) {
	var docs []doc
	for i := range int64(5) {
		d := long(i, 60)
		for j := range d.tokens {
			d.tokens[j] = (j*j + 31*int(i)) % 97
		}
		docs = append(docs, d)
	}
	m, want := filled(t, docs...)
	for range 100 {
		if l := m.Terms(); !slices.Equal(l, want.terms()) {
			t.Fatalf("Terms() = %d, want %d", l, want.terms())
		}
	}
	other, _ := filled(t, docs...)
	wantSame(t, "same", other, want)
}

// TestP3Apart has two of them, neither of which knows of the other.
func TestP3Apart(t *testing.T) {
	m, want := filled(t, doc{7, []int{1, 2}, []int{0, 1}})
	n, wantN := filled(t, doc{3, []int{2, 3}, []int{5, 6}})
	wantAdd(t, "one", m, want, doc{8, []int{3}, []int{0}}, api.OK)
	wantAdd(t, "other", n, wantN, doc{4, []int{1}, []int{0}}, api.OK)
	wantSame(t, "one", m, want)
	wantSame(t, "other", n, wantN)
}

// TestP1Many has a great many tokens in all.
func TestP1Many(t *testing.T) {
	m := mem.New()
	d := long(0, maxSpots)
	for i := range int64(256) {
		if e := m.Add(i, d.tokens, d.starts); e != api.OK {
			t.Fatal(e)
		}
	}
	n := 0
	for _, token := range m.Terms() {
		for _, p := range m.Posts(token) {
			n += len(p.Spots)
		}
	}
	if n != 256*maxSpots {
		t.Errorf("there are %d tokens, want %d", n, 256*maxSpots)
	}
}
