package sets_test

import (
	"math"
	"slices"
	"testing"

	"verbatim/api"
	"verbatim/cursor"
	"verbatim/post"
	"verbatim/sets"
)

// maxDocs is the greatest document of postings.
const maxDocs = 1 << 32

// both, either and without are the operations on plain rising lists, in the chapter's words.
func both(l ...[]int64) []int64 {
	if len(l) == 0 {
		return nil
	}
	return kept(l[0], func(doc int64) bool {
		return !slices.ContainsFunc(l, func(m []int64) bool { return !slices.Contains(m, doc) })
	})
}

func either(l ...[]int64) []int64 {
	all := slices.Concat(l...)
	slices.Sort(all)
	return slices.Compact(all)
}

func without(a, b []int64) []int64 {
	return kept(a, func(doc int64) bool { return !slices.Contains(b, doc) })
}

func kept(l []int64, is func(doc int64) bool) []int64 {
	var some []int64
	for _, doc := range l {
		if is(doc) {
			some = append(some, doc)
		}
	}
	return some
}

// dice are numbers that look like chance and are the same each time.
type dice uint64

func (x *dice) next() uint64 {
	*x = *x*6364136223846793005 + 1442695040888963407
	return uint64(*x) ^ uint64(*x)>>29
}

func (x *dice) roll(n int) int { return int(x.next() >> 33 % uint64(n)) }

// rising are up to n numbers, close together or far apart.
func (x *dice) rising(n int) []int64 {
	var l []int64
	doc := int64(x.roll(4))
	far := 1 + x.roll(5)*x.roll(5)
	for range x.roll(n + 1) {
		l = append(l, doc)
		doc += int64(1 + x.roll(far))
	}
	return l
}

// upTo is 0 and so on, n of them.
func upTo(n int) []int64 {
	var l []int64
	for i := range n {
		l = append(l, int64(i))
	}
	return l
}

// cursorOf is one at the first of these documents.
func cursorOf(t *testing.T, l []int64) *cursor.Cursor {
	t.Helper()
	var posts []api.Post
	for _, doc := range l {
		posts = append(posts, api.Post{Doc: doc, Spots: []api.Spot{{Pos: 1, At: 2}}})
	}
	b, e := post.Put(posts)
	if e != api.OK {
		t.Fatalf("Put: error %d", e)
	}
	c, e := cursor.New(b)
	if e != api.OK {
		t.Fatalf("New: error %d", e)
	}
	return c
}

// pair is a set, and the list of what it has.
type pair struct {
	set *sets.Set
	has []int64
}

// next and skip are the chapter's words, on the list.
func (p *pair) next() bool {
	p.has = p.has[min(1, len(p.has)):]
	return len(p.has) > 0
}

func (p *pair) skip(doc int64) bool {
	for len(p.has) > 0 && p.has[0] < doc {
		p.has = p.has[1:]
	}
	return len(p.has) > 0
}

// wantAt holds where the set stands against the list.
func (p *pair) wantAt(t *testing.T, what string) {
	t.Helper()
	var want int64
	if len(p.has) > 0 {
		want = p.has[0]
	}
	for range 2 {
		if doc, is := p.set.Doc(); doc != want || is != (len(p.has) > 0) {
			t.Fatalf("%s: at %d, %t, want %d of %v", what, doc, is, want, p.has)
		}
	}
}

func (p *pair) wantNext(t *testing.T, what string) {
	t.Helper()
	if is, want := p.set.Next(), p.next(); is != want {
		t.Fatalf("%s: Next %t, want %t", what, is, want)
	}
	p.wantAt(t, what+": Next")
}

func (p *pair) wantSkip(t *testing.T, what string, doc int64) {
	t.Helper()
	if is, want := p.set.Skip(doc), p.skip(doc); is != want {
		t.Fatalf("%s: Skip(%d) %t, want %t", what, doc, is, want)
	}
	p.wantAt(t, what+": Skip")
}

// wantAfter: after all documents it stays there.
func wantAfter(t *testing.T, what string, s *sets.Set) {
	t.Helper()
	p := pair{set: s}
	p.wantAt(t, what)
	for _, doc := range []int64{0, 1, math.MinInt64, math.MaxInt64} {
		p.wantSkip(t, what, doc)
		p.wantNext(t, what)
	}
	if l := sets.Gather(s); len(l) > 0 {
		t.Fatalf("%s: %v after all", what, l)
	}
}

// wantHas gathers what it has.
func wantHas(t *testing.T, what string, s *sets.Set, want []int64) {
	t.Helper()
	if l := sets.Gather(s); !slices.Equal(l, want) {
		t.Fatalf("%s: %v, want %v", what, l, want)
	}
	wantAfter(t, what, s)
}

// maker makes sets of chance, the same ones each time.
type maker struct {
	t *testing.T
	dice
}

// leaf is a set that is made from no other one.
func (m *maker) leaf() pair {
	switch m.roll(8) {
	case 0:
		return pair{}
	case 1:
		n := m.roll(30)
		return pair{sets.All(int64(n)), upTo(n)}
	case 2, 3, 4:
		l := m.rising(30)
		return pair{sets.Of(cursorOf(m.t, l)), l}
	}
	l := m.rising(30)
	return pair{sets.List(l), l}
}

// tree is a set that is made from others, so deep at most, some of which have moved ahead.
func (m *maker) tree(deep int) pair {
	if deep == 0 || m.roll(6) == 0 {
		return m.moved(m.leaf())
	}
	var l []*sets.Set
	var has [][]int64
	for range m.roll(5) {
		p := m.tree(deep - 1)
		l, has = append(l, p.set), append(has, p.has)
	}
	switch {
	case m.roll(3) == 0:
		return m.moved(pair{sets.And(l...), both(has...)})
	case m.roll(2) == 0 || len(l) < 2:
		return m.moved(pair{sets.Or(l...), either(has...)})
	}
	return m.moved(pair{sets.Less(l[0], l[1]), without(has[0], has[1])})
}

// moved is a pair that may have gone on.
func (m *maker) moved(p pair) pair {
	for range m.roll(3) {
		p.wantNext(m.t, "ahead")
		p.wantSkip(m.t, "ahead", int64(m.roll(6)))
	}
	return p
}

// TestP111Known is the chapter's example, and what can be told by hand.
func TestP111Known(t *testing.T) {
	a := func() *sets.Set { return sets.List([]int64{1, 3, 5}) }
	b := func() *sets.Set { return sets.List([]int64{3, 4, 5}) }
	for _, c := range []struct {
		what string
		set  *sets.Set
		has  []int64
	}{
		{"And", sets.And(a(), b()), []int64{3, 5}},
		{"And of one", sets.And(a()), []int64{1, 3, 5}},
		{"And of none", sets.And(), nil},
		{"And of three", sets.And(a(), sets.All(5), b()), []int64{3}},
		{"And with nothing", sets.And(a(), b(), sets.All(0)), nil},
		{"Or", sets.Or(a(), b()), []int64{1, 3, 4, 5}},
		{"Or of one", sets.Or(b()), []int64{3, 4, 5}},
		{"Or of none", sets.Or(), nil},
		{"Or of three", sets.Or(a(), sets.All(2), b()), []int64{0, 1, 3, 4, 5}},
		{"Or of four", sets.Or(b(), sets.List([]int64{9}), a(), sets.All(2)), []int64{0, 1, 3, 4, 5, 9}},
		{"Or of five", sets.Or(sets.All(0), b(), sets.List([]int64{9}), a(), sets.All(2)), []int64{0, 1, 3, 4, 5, 9}},
		{"Less", sets.Less(a(), b()), []int64{1}},
		{"Less, the other way", sets.Less(b(), a()), []int64{4}},
		{"Less of all", sets.Less(sets.All(7), a()), []int64{0, 2, 4, 6}},
		{"Less all", sets.Less(a(), sets.All(4)), []int64{5}},
		{"Less nothing", sets.Less(a(), sets.All(0)), []int64{1, 3, 5}},
		{"nothing Less", sets.Less(sets.All(0), a()), nil},
		{"all of these", sets.Less(sets.Or(a(), b()), sets.And(a(), b())), []int64{1, 4}},
	} {
		p := pair{c.set, c.has}
		p.wantAt(t, c.what)
		wantHas(t, c.what, c.set, c.has)
	}
}

// TestP111Steps is each call's answer, one behind the other.
func TestP111Steps(t *testing.T) {
	for _, s := range []*sets.Set{
		sets.List([]int64{1, 3, 5, 6, 9}),
		sets.Of(cursorOf(t, []int64{1, 3, 5, 6, 9})),
		sets.And(sets.List([]int64{0, 1, 3, 5, 6, 9}), sets.List([]int64{1, 2, 3, 5, 6, 8, 9, 10})),
		sets.Or(sets.List([]int64{1, 5, 9}), sets.List([]int64{3, 5, 6})),
		sets.Less(sets.All(10), sets.List([]int64{0, 2, 4, 7, 8, 12})),
	} {
		at := func(want int64, moved bool) {
			t.Helper()
			if doc, is := s.Doc(); doc != want || !is || !moved {
				t.Errorf("at %d, %t, after %t, want %d", doc, is, moved, want)
			}
		}
		at(1, true)
		at(1, s.Skip(0))
		at(1, s.Skip(1))
		at(3, s.Next())
		at(3, s.Skip(2))
		at(3, s.Skip(math.MinInt64))
		at(5, s.Skip(4))
		at(6, s.Next())
		at(9, s.Skip(7))
		at(9, s.Skip(9))
		if s.Next() {
			t.Error("after all it moves on")
		}
		wantAfter(t, "after all", s)
	}
}

// TestP111List: what does not rise, or is below 0, is left out.
func TestP111List(t *testing.T) {
	for _, c := range []struct{ list, has []int64 }{
		{nil, nil},
		{[]int64{}, nil},
		{[]int64{0}, []int64{0}},
		{[]int64{-1}, nil},
		{[]int64{math.MinInt64, -1, -2}, nil},
		{[]int64{-1, 0, -1, 1}, []int64{0, 1}},
		{[]int64{1, 3, 5}, []int64{1, 3, 5}},
		{[]int64{5, 3, 1}, []int64{5}},
		{[]int64{5, 3, 4, 6}, []int64{5, 6}},
		{[]int64{1, 5, 3, 4, 5, 6, 2, 7}, []int64{1, 5, 6, 7}},
		{[]int64{2, 2, 2, 3, 3}, []int64{2, 3}},
		{[]int64{0, 0, -5, 0, 4}, []int64{0, 4}},
		{[]int64{math.MaxInt64, 0, math.MaxInt64}, []int64{math.MaxInt64}},
		{[]int64{7, math.MinInt64, math.MaxInt64 - 1, math.MaxInt64}, []int64{7, math.MaxInt64 - 1, math.MaxInt64}},
	} {
		p := pair{sets.List(c.list), c.has}
		p.wantAt(t, "List")
		wantHas(t, "List", p.set, c.has)
	}
}

// TestP111All: so many, from 0 on; none of fewer than one.
func TestP111All(t *testing.T) {
	for _, n := range []int64{0, -1, -2, math.MinInt64, math.MinInt64 + 1} {
		wantAfter(t, "All of none", sets.All(n))
	}
	for n := range 40 {
		p := pair{sets.All(int64(n)), upTo(n)}
		p.wantAt(t, "All")
		wantHas(t, "All", p.set, p.has)
		for doc := int64(-2); doc < 42; doc++ {
			p := pair{sets.All(int64(n)), upTo(n)}
			p.wantSkip(t, "All", doc)
			p.wantNext(t, "All")
			wantHas(t, "All", p.set, p.has)
		}
	}
}

// TestP111Of: the documents of a cursor from where it is; the set moves it.
func TestP111Of(t *testing.T) {
	wantAfter(t, "no cursor", sets.Of(nil))
	wantAfter(t, "a cursor of nothing", sets.Of(cursorOf(t, nil)))
	wantAfter(t, "a cursor that nobody made", sets.Of(&cursor.Cursor{}))
	x := dice(1)
	for range 300 {
		l := x.rising(60)
		for gone := range len(l) + 2 {
			c := cursorOf(t, l)
			for range gone {
				c.Next()
			}
			p := pair{sets.Of(c), l[min(gone, len(l)):]}
			p.wantAt(t, "Of")
			p.wantSkip(t, "Of", int64(x.roll(40)))
			if doc, is := c.Doc(); is != (len(p.has) > 0) || is && doc != p.has[0] {
				t.Fatalf("the cursor is at %d, %t, the set at %v", doc, is, p.has)
			}
			wantHas(t, "Of", p.set, p.has)
			if _, is := c.Doc(); is {
				t.Fatal("all was gathered, and the cursor is at a document")
			}
		}
	}
	wantHas(t, "the greatest", sets.Of(cursorOf(t, []int64{0, maxDocs - 1, maxDocs})), []int64{0, maxDocs - 1, maxDocs})
}

// TestP111Reads: blocks that a set passes are not read.
func TestP111Reads(t *testing.T) {
	var l []int64
	for doc := range int64(100) {
		l = append(l, 10*doc)
	}
	few := func() *sets.Set { return sets.List([]int64{500, 505, 990, 1000}) }
	for _, c := range []struct {
		what string
		make func(s *sets.Set) *sets.Set
		has  []int64
	}{
		{"And", func(s *sets.Set) *sets.Set { return sets.And(s, few()) }, []int64{500, 990}},
		{"And, the other way", func(s *sets.Set) *sets.Set { return sets.And(few(), s) }, []int64{500, 990}},
		{"And with all", func(s *sets.Set) *sets.Set { return sets.And(s, sets.All(1000), few()) }, []int64{500, 990}},
		{"Less", func(s *sets.Set) *sets.Set { return sets.Less(few(), s) }, []int64{505, 1000}},
	} {
		k := cursorOf(t, l)
		wantHas(t, c.what, c.make(sets.Of(k)), c.has)
		if k.Reads() > 4 {
			t.Errorf("%s: %d blocks read", c.what, k.Reads())
		}
	}
}

// TestP111Nil: a nil set has nothing, wherever it stands.
func TestP111Nil(t *testing.T) {
	a := func() *sets.Set { return sets.List([]int64{1, 3}) }
	for _, none := range []*sets.Set{nil, {}} {
		wantAfter(t, "nil", none)
		for _, s := range []*sets.Set{
			sets.And(none), sets.And(none, none), sets.And(none, a()), sets.And(a(), none), sets.And(a(), none, a()), sets.And([]*sets.Set{}...),
			sets.Or(none), sets.Or(none, none), sets.Or(none, none, none, none, none), sets.Or([]*sets.Set{}...),
			sets.Less(none, none), sets.Less(none, a()), sets.Less(sets.And(none), sets.Or(none)),
		} {
			wantAfter(t, "of nil", s)
		}
		for _, s := range []*sets.Set{
			sets.Or(none, a()), sets.Or(a(), none), sets.Or(none, a(), none), sets.Or(none, none, none, none, a()), sets.Or(a(), none, none, none, none),
			sets.Less(a(), none), sets.Less(a(), sets.Less(none, a())),
		} {
			wantHas(t, "with nil", s, []int64{1, 3})
		}
	}
}

// TestP111Gather: what it has from its position on; then it is after all.
func TestP111Gather(t *testing.T) {
	for gone := range 7 {
		for _, s := range []*sets.Set{sets.All(6), sets.List(upTo(6)), sets.Or(sets.All(3), sets.List([]int64{1, 3, 4, 5})), sets.Less(sets.All(8), sets.List([]int64{6, 7}))} {
			for range gone {
				s.Next()
			}
			wantHas(t, "Gather", s, upTo(6)[gone:])
		}
	}
}

// TestP111Any: calls of all kinds, in any order, on sets of all kinds.
func TestP111Any(t *testing.T) {
	m := &maker{t, 2}
	for i := range 4000 {
		p := m.tree(i % 4)
		for range 20 {
			if m.roll(2) == 0 {
				p.wantNext(t, "any")
				continue
			}
			doc := int64(m.roll(60) - 2)
			if m.roll(20) == 0 {
				doc = int64(m.next())
			}
			p.wantSkip(t, "any", doc)
		}
		wantHas(t, "any", p.set, p.has)
	}
}

// TestP112All: all sets of few documents, made in three ways, with each other.
func TestP112All(t *testing.T) {
	lists := func(n int) [][]int64 {
		var l [][]int64
		for bits := range 1 << n {
			l = append(l, kept(upTo(n), func(doc int64) bool { return bits>>doc&1 == 1 }))
		}
		return l
	}
	made := []func(l []int64) *sets.Set{
		sets.List,
		func(l []int64) *sets.Set { return sets.Of(cursorOf(t, l)) },
		func(l []int64) *sets.Set { return sets.Less(sets.All(8), sets.List(without(upTo(8), l))) },
	}
	for _, a := range lists(5) {
		for _, b := range lists(5) {
			for _, x := range made {
				for _, y := range made {
					wantHas(t, "And", sets.And(x(a), y(b)), both(a, b))
					wantHas(t, "Or", sets.Or(x(a), y(b)), either(a, b))
					wantHas(t, "Less", sets.Less(x(a), y(b)), without(a, b))
				}
			}
		}
	}
	for _, a := range lists(3) {
		for _, b := range lists(3) {
			for _, c := range lists(3) {
				wantHas(t, "And of three", sets.And(sets.List(a), sets.List(b), sets.List(c)), both(a, b, c))
				wantHas(t, "Or of three", sets.Or(sets.List(a), sets.List(b), sets.List(c)), either(a, b, c))
			}
		}
	}
}

// TestP112Trees: sets that are made from sets of all kinds, some of which have moved ahead.
func TestP112Trees(t *testing.T) {
	m := &maker{t, 3}
	for i := range 20000 {
		p := m.tree(i % 6)
		wantHas(t, "tree", p.set, p.has)
	}
}

// TestP112Many: as many arguments as there are.
func TestP112Many(t *testing.T) {
	m := &maker{t, 4}
	for n := range 70 {
		var l, k []*sets.Set
		var has [][]int64
		for range n {
			all := without(upTo(60), m.rising(3))
			has = append(has, all)
			l, k = append(l, sets.List(all)), append(k, sets.List(all))
		}
		wantHas(t, "And of many", sets.And(l...), both(has...))
		wantHas(t, "Or of many", sets.Or(k...), either(has...))
	}
	var l []*sets.Set
	for doc := range int64(1 << 16) {
		l = append(l, sets.List([]int64{doc * 7919 % (1 << 16)}))
	}
	wantHas(t, "Or of very many", sets.Or(l...), upTo(1<<16))
	l = nil
	for doc := range int64(1 << 11) {
		l = append(l, sets.Less(sets.All(1<<11+2), sets.List([]int64{doc * 1021 % (1 << 11)})))
	}
	wantHas(t, "And of very many", sets.And(l...), []int64{1 << 11, 1<<11 + 1})
}

// TestP112Same: a set may be given twice; it is moved for both.
func TestP112Same(t *testing.T) {
	x := dice(5)
	for range 200 {
		l := x.rising(40)
		for _, made := range []func() *sets.Set{
			func() *sets.Set { return sets.List(l) },
			func() *sets.Set { return sets.Of(cursorOf(t, l)) },
			func() *sets.Set { return sets.Or(sets.List(l), nil) },
		} {
			s := made()
			wantHas(t, "And of the same", sets.And(s, s, s), l)
			s = made()
			wantHas(t, "Or of the same", sets.Or(s, s, s, s, s), l)
			s = made()
			wantHas(t, "Less the same", sets.Less(s, s), nil)
		}
	}
}

// TestP112Moves: a set that is made from others moves these.
func TestP112Moves(t *testing.T) {
	pairs := func() (*sets.Set, *sets.Set) { return sets.List([]int64{1, 3, 5}), sets.All(5) }
	a, b := pairs()
	sets.Gather(sets.Or(a, b))
	wantAfter(t, "first of Or", a)
	wantAfter(t, "second of Or", b)
	a, b = pairs()
	sets.Gather(sets.Less(a, b))
	wantAfter(t, "first of Less", a)
	wantAfter(t, "second of Less", b)
	a, b = pairs()
	sets.And(a, b).Skip(2)
	if doc, is := a.Doc(); doc != 3 || !is {
		t.Errorf("first of And at %d, %t", doc, is)
	}
	if doc, is := b.Doc(); doc != 3 || !is {
		t.Errorf("second of And at %d, %t", doc, is)
	}
	wantHas(t, "from there on", sets.Or(a, b), []int64{3, 4, 5})
}

// TestP1Greatest: behind the greatest number there is nothing, and no way back.
func TestP1Greatest(t *testing.T) {
	const most = math.MaxInt64
	last := func() *sets.Set { return sets.List([]int64{most}) }
	two := func() *sets.Set { return sets.List([]int64{most - 1, most}) }
	wantHas(t, "List", two(), []int64{most - 1, most})
	wantHas(t, "And", sets.And(last(), two()), []int64{most})
	wantHas(t, "Or", sets.Or(last(), two()), []int64{most - 1, most})
	wantHas(t, "Less", sets.Less(two(), last()), []int64{most - 1})
	wantHas(t, "Less the same", sets.Less(last(), two()), nil)
	wantHas(t, "Less all", sets.Less(two(), sets.All(most)), []int64{most})
	wantHas(t, "And all", sets.And(two(), sets.All(most)), []int64{most - 1})
	for _, made := range []func() *sets.Set{
		func() *sets.Set { return sets.Or(sets.All(most), two()) },
		func() *sets.Set { return sets.Less(sets.Or(two(), sets.All(most)), sets.All(1000)) },
		func() *sets.Set { return sets.And(sets.Or(sets.All(most), two()), sets.Or(last(), sets.All(most))) },
	} {
		p := pair{made(), []int64{most - 3, most - 2, most - 1, most}}
		p.set.Skip(most - 3)
		p.wantAt(t, "near the end")
		wantHas(t, "near the end", p.set, p.has)
		p = pair{made(), []int64{most}}
		p.set.Skip(most)
		p.wantAt(t, "at the end")
		p.wantNext(t, "at the end")
		wantAfter(t, "behind the end", p.set)
	}
	s := sets.All(most)
	if s.Skip(most) {
		t.Error("All has its number")
	}
	wantAfter(t, "All", s)
}

// TestP1Huge ends soon, though nobody could go through all of these documents.
func TestP1Huge(t *testing.T) {
	const most = math.MaxInt64
	all := func() *sets.Set { return sets.All(most) }
	few := func() *sets.Set { return sets.List([]int64{0, 7, 1 << 40, most - 1}) }
	not := func(s *sets.Set) *sets.Set { return sets.Less(all(), s) }
	wantHas(t, "Less", not(all()), nil)
	wantHas(t, "Less most of them", not(sets.All(most-2)), []int64{most - 2, most - 1})
	wantHas(t, "Less all but few", not(not(few())), []int64{0, 7, 1 << 40, most - 1})
	wantHas(t, "and once more", not(not(not(not(few())))), []int64{0, 7, 1 << 40, most - 1})
	wantHas(t, "And", sets.And(all(), few(), sets.All(1<<40+1)), []int64{0, 7, 1 << 40})
	wantHas(t, "And not", sets.And(not(sets.Or(few(), sets.All(1<<50))), sets.All(1<<50+2)), []int64{1 << 50, 1<<50 + 1})
	wantHas(t, "not Or", not(sets.Or(sets.All(1<<60), not(few()))), []int64{most - 1})
	wantHas(t, "not And", not(sets.And(all(), sets.Or(all(), few()), not(few()))), []int64{0, 7, 1 << 40, most - 1})
	s := not(few())
	for _, doc := range []int64{1, 7, 8, 1 << 40, most - 2} {
		if !s.Skip(doc) {
			t.Errorf("Skip(%d): false", doc)
		}
	}
	p := pair{s, []int64{most - 2}}
	p.wantNext(t, "nearly all")
}

// TestP1Deep: sets within sets, as many as there may be; and the same ones again and again.
func TestP1Deep(t *testing.T) {
	has := []int64{1, 4, 5, 9}
	s := sets.List(has)
	for range 1 << 14 {
		s = sets.Less(sets.Or(sets.And(s, sets.All(20)), nil), nil)
	}
	wantHas(t, "deep", s, has)
	s = sets.List(has)
	for range 100 {
		s = sets.And(sets.Or(s, s), sets.Or(s, s, s, s), s)
	}
	wantHas(t, "again and again", s, has)
}

// TestP1Shared ends without a panic, even if a set, or a cursor, is moved by several others.
func TestP1Shared(t *testing.T) {
	x := dice(6)
	for range 5000 {
		c := cursorOf(t, x.rising(20))
		l := []*sets.Set{sets.List(x.rising(20)), sets.All(int64(x.roll(20))), sets.Of(c), sets.Of(c), nil, {}}
		some := func() *sets.Set { return l[x.roll(len(l))] }
		for range 12 {
			switch x.roll(5) {
			case 0:
				l = append(l, sets.And(some(), some(), some()))
			case 1:
				l = append(l, sets.Or(some(), some(), some(), some()))
			case 2, 3:
				l = append(l, sets.Less(some(), some()))
			case 4:
				some().Skip(int64(x.roll(20)))
				c.Next()
			}
		}
		for i := range l {
			sets.Gather(l[len(l)-1-i])
		}
		for _, s := range l {
			wantAfter(t, "shared", s)
		}
	}
}

// TestP3TakesNothing: what is passed is not changed, and what becomes of it later is not seen.
func TestP3TakesNothing(t *testing.T) {
	room := []int64{9, 1, 0, 3, 5, 77, 78}
	s := sets.List(room[1:5])
	if !slices.Equal(room, []int64{9, 1, 0, 3, 5, 77, 78}) {
		t.Errorf("the list was changed: %v", room)
	}
	clear(room)
	wantHas(t, "List", s, []int64{1, 3, 5})
	for _, made := range []func(l ...*sets.Set) *sets.Set{sets.And, sets.Or} {
		for n := 1; n < 9; n++ {
			var own []*sets.Set
			for range n + 2 {
				own = append(own, sets.List([]int64{1, 3, 5}))
			}
			l := slices.Clone(own)
			s := made(l[:n]...)
			if !slices.Equal(l, own) {
				t.Errorf("the sets of %d were changed", n)
			}
			clear(l)
			wantHas(t, "the sets of others", s, []int64{1, 3, 5})
			wantHas(t, "the spare ones", own[n], []int64{1, 3, 5})
		}
	}
}

// TestP3IsNew: a list that was gathered is the caller's own, with all spare capacity.
func TestP3IsNew(t *testing.T) {
	list := []int64{2, 4, 6, 8, 10}
	s, k := sets.List(list), sets.Of(cursorOf(t, list))
	first, second := sets.Gather(sets.Or(s, nil)), sets.Gather(k)
	again := sets.Gather(sets.List(list))
	for _, l := range [][]int64{first, second} {
		l = l[:cap(l)]
		for i := range l {
			l[i] = 77
		}
	}
	if !slices.Equal(list, []int64{2, 4, 6, 8, 10}) || !slices.Equal(again, list) {
		t.Errorf("spoilt: %v, %v", list, again)
	}
}

// TestP3SameAnswer: one set hangs on no other that it was not made from.
func TestP3SameAnswer(t *testing.T) {
	list := []int64{2, 4, 6, 8, 10}
	for range 3 {
		p, q := pair{sets.List(list), list}, pair{sets.Less(sets.List(list), sets.All(5)), list[2:]}
		all := pair{sets.All(5), upTo(5)}
		for doc := range int64(12) {
			p.wantSkip(t, "one", doc)
			q.wantNext(t, "other")
			all.wantSkip(t, "third", doc/2)
			p.wantAt(t, "one")
		}
	}
}
