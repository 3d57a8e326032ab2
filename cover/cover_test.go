package cover_test

import (
	"bytes"
	"math"
	"slices"
	"strings"
	"sync"
	"testing"

	"verbatim/api"
	"verbatim/cover"
)

// mayBegin is the chapter's words, byte by byte: the rest of the token and the text are equal up to the length of the shorter one.
func mayBegin(l [][]byte, text []byte, a api.Align) bool {
	if a.Token < 0 || a.Token >= len(l) || a.Shift < 0 || a.Shift >= len(l[a.Token]) {
		return false
	}
	for i := 0; i < len(text) && a.Shift+i < len(l[a.Token]); i++ {
		if l[a.Token][a.Shift+i] != text[i] {
			return false
		}
	}
	return true
}

// aligns are all at which a text may begin, by tokens, then by shifts.
func aligns(l [][]byte, text []byte) []api.Align {
	var all []api.Align
	for token := range l {
		for shift := range l[token] {
			a := api.Align{Token: token, Shift: shift}
			if len(text) > 0 && mayBegin(l, text, a) {
				all = append(all, a)
			}
		}
	}
	return all
}

// sure is the chapter's words.
func sure(l [][]byte, text []byte, a api.Align) bool {
	return len(text) > 0 && mayBegin(l, text, a) && len(l[a.Token])-a.Shift >= len(text)
}

// chances are the chapter's words, shift by shift.
func chances(l [][]byte, text []byte, tokens []int) []int {
	var at []int
	for i, token := range tokens {
		begin := len(together(l, tokens[:i]))
		for shift := range 16 {
			if len(text) > 0 && mayBegin(l, text, api.Align{Token: token, Shift: shift}) {
				at = append(at, begin+shift)
			}
		}
	}
	return at
}

// together is the bytes of tokens, one behind the other.
func together(l [][]byte, tokens []int) []byte {
	var b []byte
	for _, token := range tokens {
		if 0 <= token && token < len(l) {
			b = append(b, l[token]...)
		}
	}
	return b
}

// dice are numbers that look like chance and are the same each time.
type dice uint64

func (x *dice) next() uint64 {
	*x = *x*6364136223846793005 + 1442695040888963407
	return uint64(*x) ^ uint64(*x)>>29
}

func (x *dice) roll(n int) int { return int(x.next() >> 33 % uint64(n)) }

// text is up to n bytes, of so many letters.
func (x *dice) text(n, letters int) []byte {
	b := []byte{}
	for range x.roll(n + 1) {
		b = append(b, byte('a'+x.roll(letters)))
	}
	return b
}

// sample is tokens, and what is special about them.
type sample struct {
	name   string
	tokens [][]byte
}

// samples are lists of tokens of each kind, in the same order each time.
func samples() []sample {
	l := []sample{
		{"none", nil},
		{"no bytes", split("")},
		{"the chapter's", split("ab b bc")},
		{"the same ones", split("ab  ab b ab b ")},
		{"each within the next one", split("a ba bab babc abcba")},
		{"one byte, again and again", split("aaaa a aaa aaaaaaaaaaaaaaaa aa")},
		{"16 bytes", split("0123456789abcdef fedcba9876543210 0123456789abcdeg")},
		{"any bytes", [][]byte{{0}, {0, 0}, {255, 0, 128}, {128}, {0, 255}, {0x80, 0xff}, []byte("ä"), []byte("\xc3")}},
		{"512", many(512)},
		{"512 times no bytes", make([][]byte, 512)},
	}
	x := dice(1)
	for i := range 12 {
		s := sample{name: "chance"}
		for range x.roll(30) {
			s.tokens = append(s.tokens, x.text(1+x.roll(16), 1+i%4))
		}
		l = append(l, s)
	}
	return l
}

// split is texts that are written with blanks between them.
func split(s string) [][]byte {
	var l [][]byte
	for _, text := range strings.Split(s, " ") {
		l = append(l, []byte(text))
	}
	return l
}

// many are n tokens of 16 bytes each.
func many(n int) [][]byte {
	x := dice(2)
	var l [][]byte
	for range n {
		token := make([]byte, 16)
		for i := range token {
			token[i] = byte('a' + x.roll(8))
		}
		l = append(l, token)
	}
	return l
}

// sought is what may begin in a sample: no bytes, single ones, and each piece of its first tokens, with others behind it.
func sought(l [][]byte) [][]byte {
	s := [][]byte{nil, {}, {0}, {'a'}, {255}, []byte("zz"), bytes.Repeat([]byte("a"), 16), bytes.Repeat([]byte("a"), 17)}
	l = l[:min(len(l), 8)]
	for i, token := range l {
		for from := range len(token) + 1 {
			for to := from; to <= len(token); to += 3 {
				s = append(s, token[from:to], slices.Concat(token[from:to], []byte("b")))
			}
			s = append(s, slices.Concat(token[from:], l[(i+1)%len(l)]), slices.Concat(token[from:], token, token))
		}
	}
	return s
}

// rows are tokens one behind the other, some of them not valid.
func rows(x *dice, l [][]byte) [][]int {
	all := [][]int{nil, {}, {0}, {0, 0}, {-1}, {len(l)}, {math.MinInt, 0, math.MaxInt, 0}}
	for n := range 8 {
		var row []int
		for range n * n {
			row = append(row, x.roll(len(l)+2)-1)
		}
		all = append(all, row)
	}
	return all
}

func wantCover(t *testing.T, l [][]byte) *cover.Cover {
	t.Helper()
	c := cover.New(l)
	if c == nil {
		t.Fatalf("no cover of %d tokens", len(l))
	}
	return c
}

func wantOf(t *testing.T, what string, c *cover.Cover, text []byte, want []api.Align) {
	t.Helper()
	if l := c.Of(text); !slices.Equal(l, want) {
		t.Errorf("%s: of %q: %v, want %v", what, text, l, want)
	}
}

func wantSure(t *testing.T, what string, c *cover.Cover, text []byte, a api.Align, want bool) {
	t.Helper()
	if is := c.Sure(text, a); is != want {
		t.Errorf("%s: %q at %v: %v", what, text, a, is)
	}
}

func wantChances(t *testing.T, what string, c *cover.Cover, text []byte, tokens, want []int) {
	t.Helper()
	if l := c.Chances(text, tokens); !slices.Equal(l, want) {
		t.Errorf("%s: chances of %q in %v: %v, want %v", what, text, tokens, l, want)
	}
}

// wantText holds all three against the chapter's words.
func wantText(t *testing.T, what string, c *cover.Cover, l [][]byte, text []byte, rows [][]int) {
	t.Helper()
	wantOf(t, what, c, text, aligns(l, text))
	for token := -1; token <= min(len(l), 10); token++ {
		for shift := -1; shift <= 17; shift++ {
			a := api.Align{Token: token, Shift: shift}
			wantSure(t, what, c, text, a, sure(l, text, a))
		}
	}
	for _, row := range rows {
		wantChances(t, what, c, text, row, chances(l, text, row))
	}
}

// pairs are aligns, of a token and a shift each.
func pairs(n ...int) []api.Align {
	var l []api.Align
	for i := 0; i < len(n); i += 2 {
		l = append(l, api.Align{Token: n[i], Shift: n[i+1]})
	}
	return l
}

// TestP81Known is the chapter's example, and what can be told by hand.
func TestP81Known(t *testing.T) {
	for _, c := range []struct {
		tokens, text string
		want         []api.Align
	}{
		{"ab b bc", "bc", pairs(0, 1, 1, 0, 2, 0)},
		{"ab b bc", "b", pairs(0, 1, 1, 0, 2, 0)},
		{"ab b bc", "ab", pairs(0, 0)},
		{"ab b bc", "abc", pairs(0, 0)},
		{"ab b bc", "ba", pairs(0, 1, 1, 0)},
		{"ab b bc", "c", pairs(2, 1)},
		{"ab b bc", "ca", pairs(2, 1)},
		{"ab b bc", "ac", nil},
		{"ab b bc", "d", nil},
		{"ab b bc", "", nil},
		{"", "a", nil},
		{"", "", nil},
		{"a  a", "a", pairs(0, 0, 2, 0)},
		{"a  a", "ab", pairs(0, 0, 2, 0)},
		{"aaa", "a", pairs(0, 0, 0, 1, 0, 2)},
		{"aaa", "aa", pairs(0, 0, 0, 1, 0, 2)},
		{"aaa", "aaaa", pairs(0, 0, 0, 1, 0, 2)},
		{"aaa", "ab", pairs(0, 2)},
		{"aaa", "aab", pairs(0, 1, 0, 2)},
		{"aaa", "aaab", pairs(0, 0, 0, 1, 0, 2)},
		{"aaa", "aaaab", pairs(0, 0, 0, 1, 0, 2)},
		{"xabab", "abc", pairs(0, 3)},
		{"xabab", "ababc", pairs(0, 1, 0, 3)},
		{"abcd b", "bc", pairs(0, 1, 1, 0)},
		{"0123456789abcdef", "0123456789abcdef", pairs(0, 0)},
		{"0123456789abcdef", "0123456789abcdefg", pairs(0, 0)},
		{"0123456789abcdef", "fg", pairs(0, 15)},
	} {
		wantOf(t, c.tokens, wantCover(t, split(c.tokens)), []byte(c.text), c.want)
	}
}

// TestP81KnownChances is what can be told by hand of tokens one behind the other.
func TestP81KnownChances(t *testing.T) {
	c := wantCover(t, split("ab b bc  aaa"))
	for _, k := range []struct {
		text         string
		tokens, want []int
	}{
		{"bc", []int{0, 1, 2}, []int{1, 2, 3}},
		{"bc", []int{2, 2, 2}, []int{0, 2, 4}},
		{"bc", []int{0, 9, 2}, []int{1, 2}},
		{"bc", []int{-1, 0, 5, 2}, []int{1, 2}},
		{"bc", []int{3, 0, 3, 3, 2, 3}, []int{1, 2}},
		{"bc", []int{9, -9, 3}, nil},
		{"bc", []int{4}, nil},
		{"bc", nil, nil},
		{"", []int{0, 1, 2, 3, 4}, nil},
		{"a", []int{4, 0, 4}, []int{0, 1, 2, 3, 5, 6, 7}},
		{"ab", []int{4, 0, 4}, []int{2, 3, 7}},
		{"aab", []int{4, 0, 4}, []int{1, 2, 6, 7}},
	} {
		wantChances(t, "known", c, []byte(k.text), k.tokens, k.want)
	}
}

// TestP81Sure is what can be told by hand of single aligns, and of those that are none.
func TestP81Sure(t *testing.T) {
	c := wantCover(t, split("abc  c"))
	for _, k := range []struct {
		text  string
		token int
		shift int
		want  bool
	}{
		{"abc", 0, 0, true},
		{"ab", 0, 0, true},
		{"bc", 0, 1, true},
		{"b", 0, 1, true},
		{"c", 0, 2, true},
		{"c", 2, 0, true},
		{"abcd", 0, 0, false},
		{"cd", 0, 2, false},
		{"cd", 2, 0, false},
		{"b", 0, 0, false},
		{"ac", 0, 0, false},
		{"", 0, 0, false},
		{"", 0, 3, false},
		{"", 1, 0, false},
		{"", 3, 0, false},
		{"a", 0, 3, false},
		{"a", 0, 4, false},
		{"a", 0, -1, false},
		{"a", 1, 0, false},
		{"a", 3, 0, false},
		{"a", -1, 0, false},
		{"a", math.MaxInt, 0, false},
		{"a", math.MinInt, 0, false},
		{"a", 0, math.MaxInt, false},
		{"a", 0, math.MinInt, false},
	} {
		wantSure(t, "known", c, []byte(k.text), api.Align{Token: k.token, Shift: k.shift}, k.want)
	}
}

// TestP81New: there is a cover up to the limits, and none beyond.
func TestP81New(t *testing.T) {
	long := make([]byte, 17)
	for _, c := range []struct {
		name   string
		tokens [][]byte
		is     bool
	}{
		{"nil", nil, true},
		{"no tokens", [][]byte{}, true},
		{"no bytes", [][]byte{nil, {}}, true},
		{"511", many(511), true},
		{"512", many(512), true},
		{"513", many(513), false},
		{"513 times no bytes", make([][]byte, 513), false},
		{"16 bytes", [][]byte{long[:16]}, true},
		{"17 bytes", [][]byte{long}, false},
		{"17 bytes behind 511 others", append(many(511), long), false},
		{"513, one of them of 17 bytes", append(many(512), long), false},
		{"very long", [][]byte{make([]byte, 1<<20)}, false},
		{"very many", make([][]byte, 1<<20), false},
	} {
		if x := cover.New(c.tokens); (x != nil) != c.is {
			t.Errorf("%s: %v", c.name, x != nil)
		}
	}
}

// TestP81Samples holds what is sought in all samples against the chapter's words.
func TestP81Samples(t *testing.T) {
	x := dice(3)
	for _, s := range samples() {
		c := wantCover(t, s.tokens)
		all := rows(&x, s.tokens)
		for i, text := range sought(s.tokens) {
			wantText(t, s.name, c, s.tokens, text, all[i%len(all):i%len(all)+1])
		}
	}
}

// TestP81All: all tokens of few letters, and all texts of them.
func TestP81All(t *testing.T) {
	all := [][]byte{{}}
	for i := 0; len(all) < 127; i++ {
		all = append(all, slices.Concat(all[i], []byte("a")), slices.Concat(all[i], []byte("b")))
	}
	few := all[:31]
	c := wantCover(t, few)
	row := [][]int{{30, -1, 0, 3, 17, 31, 5}}
	for _, text := range all {
		wantText(t, "all", c, few, text, row)
		wantText(t, "all, and another byte", c, few, slices.Concat(text, []byte("c")), row)
	}
}

// TestP81Bytes: each byte is another one.
func TestP81Bytes(t *testing.T) {
	var l [][]byte
	for b := range 256 {
		l = append(l, []byte{byte(b), byte(255 - b)})
	}
	c := wantCover(t, l)
	for b := range 256 {
		wantOf(t, "pairs", c, []byte{byte(b)}, aligns(l, []byte{byte(b)}))
		wantOf(t, "pairs", c, l[b], aligns(l, l[b]))
		wantOf(t, "pairs", c, []byte{byte(b), 7}, aligns(l, []byte{byte(b), 7}))
	}
}

// TestP82: wherever a text stands in the bytes of tokens, it may begin, however it is cut.
func TestP82(t *testing.T) {
	x := dice(4)
	for _, s := range samples() {
		c := wantCover(t, s.tokens)
		for _, row := range rows(&x, s.tokens) {
			bytes := together(s.tokens, row)
			for range 60 {
				from := x.roll(len(bytes) + 1)
				text := bytes[from : from+x.roll(len(bytes)-from+1)]
				wantNoneMissed(t, s.name, c, row, bytes, text)
			}
			wantNoneMissed(t, s.name, c, row, bytes, bytes)
		}
	}
}

func wantNoneMissed(t *testing.T, what string, c *cover.Cover, row []int, b, text []byte) {
	t.Helper()
	l := c.Chances(text, row)
	for at := range b {
		if len(text) > 0 && bytes.HasPrefix(b[at:], text) && !slices.Contains(l, at) {
			t.Errorf("%s: %q stands at %d of %v, %v", what, text, at, row, l)
		}
	}
}

// TestP83: where it is sure, a text stands, whatever tokens are around.
func TestP83(t *testing.T) {
	x := dice(5)
	for _, s := range samples() {
		c := wantCover(t, s.tokens)
		sures := 0
		for _, text := range sought(s.tokens) {
			of := c.Of(text)
			for i := 0; i < len(of); i += 1 + len(of)/8 {
				a := of[i]
				if !c.Sure(text, a) {
					continue
				}
				sures++
				row := []int{x.roll(len(s.tokens)), a.Token, x.roll(len(s.tokens))}
				b := together(s.tokens, row)
				at := len(together(s.tokens, row[:1])) + a.Shift
				if !bytes.HasPrefix(b[at:], text) || !slices.Contains(c.Chances(text, row), at) {
					t.Errorf("%s: %q is sure at %v, and doesn't stand in %q", s.name, text, a, b)
				}
			}
		}
		if full := len(bytes.Join(s.tokens, nil)) > 0; full != (sures > 0) {
			t.Errorf("%s: sure %d times", s.name, sures)
		}
	}
}

// spoil overwrites a list, with its spare capacity.
func spoil[T byte | int | api.Align](l []T, with T) {
	l = l[:cap(l)]
	for i := range l {
		l[i] = with
	}
}

// TestP3TakesNothing: what is passed is not changed, and what lies behind it is not read.
func TestP3TakesNothing(t *testing.T) {
	room := []byte("abcabd")
	tokens := [][]byte{room[:2], room[3:5], nil, []byte("xyz"), []byte("ab")}
	c := wantCover(t, tokens[:3:4])
	row := []int{0, 1, 2, 3, 4, 0, 7}
	text := []byte("babxd")
	for n := range len(text) + 1 {
		wantText(t, "ahead of others", c, tokens[:3], text[:n], [][]int{row[:4], row[:5], row[:6:6]})
	}
	if string(room) != "abcabd" || string(tokens[3]) != "xyz" || string(tokens[4]) != "ab" {
		t.Error("tokens were changed")
	}
	if string(text) != "babxd" || !slices.Equal(row, []int{0, 1, 2, 3, 4, 0, 7}) {
		t.Error("what is sought, or where, was changed")
	}
}

// TestP3KeepsNothing: a cover goes on as it was made, whatever becomes of the tokens, the text and the row.
func TestP3KeepsNothing(t *testing.T) {
	x := dice(6)
	for _, s := range samples() {
		var tokens [][]byte
		for _, token := range s.tokens {
			tokens = append(tokens, bytes.Clone(token))
		}
		c := wantCover(t, tokens)
		for _, token := range tokens {
			spoil(token, 77)
		}
		clear(tokens)
		all := rows(&x, s.tokens)
		for i, text := range sought(s.tokens[:min(len(s.tokens), 3)]) {
			piece, row := bytes.Clone(text), slices.Clone(all[i%len(all)])
			wantText(t, s.name, c, s.tokens, piece, [][]int{row})
			spoil(piece, 77)
			spoil(row, 77)
			wantText(t, s.name, c, s.tokens, text, all[i%len(all):i%len(all)+1])
		}
	}
}

// TestP3IsNew: no list that is returned shares memory with the cover, or with another one.
func TestP3IsNew(t *testing.T) {
	l := split("ab ba b abab  ab")
	c := wantCover(t, l)
	row := []int{3, 0, 1, 2, 4, 5}
	for _, text := range split("ab b a ba abab abc babab zz") {
		a, b := c.Of(text), c.Of(text)
		spoil(a, api.Align{Token: 77, Shift: 77})
		if !slices.Equal(b, aligns(l, text)) {
			t.Errorf("of %q: %v", text, b)
		}
		m, n := c.Chances(text, row), c.Chances(text, row)
		spoil(m, 77)
		if !slices.Equal(n, chances(l, text, row)) {
			t.Errorf("chances of %q: %v", text, n)
		}
		spoil(b, api.Align{Token: 77, Shift: 77})
		spoil(n, 77)
		wantText(t, "spoiled", c, l, text, [][]int{row})
	}
	if !slices.Equal(row, []int{3, 0, 1, 2, 4, 5}) {
		t.Error("the row was handed out")
	}
}

// TestP3SameAnswer: a call hangs on no call ahead of it, and one cover on no other.
func TestP3SameAnswer(t *testing.T) {
	l, m := split("ab ba b"), split("b ab ba bb")
	c, d := wantCover(t, l), wantCover(t, m)
	row := [][]int{{2, 1, 0, 3}}
	for range 20 {
		for _, text := range split("b zz  ab bb aba") {
			wantText(t, "one", c, l, text, row)
			wantText(t, "other", d, m, text, row)
		}
		cover.New(many(513))
	}
}

// TestP3Reading: many may ask at the same time, since asking changes nothing.
func TestP3Reading(t *testing.T) {
	l := many(40)
	c := wantCover(t, l)
	var all sync.WaitGroup
	for i := range 8 {
		all.Go(func() {
			for _, token := range l[i*5 : i*5+5] {
				wantText(t, "at the same time", c, l, token[13:], [][]int{{i, i + 1, i}})
			}
		})
	}
	all.Wait()
}

// TestP1Long ends soon, however long the text and the row are.
func TestP1Long(t *testing.T) {
	c := wantCover(t, split("a ab aaaaaaaaaaaaaaaa b"))
	long := bytes.Repeat([]byte("a"), 1<<20)
	want := pairs(0, 0)
	for shift := range 16 {
		want = append(want, api.Align{Token: 2, Shift: shift})
	}
	for range 50 {
		wantOf(t, "long", c, long, want)
		wantSure(t, "long", c, long, api.Align{Token: 2}, false)
	}
	row := make([]int, 1<<20)
	for i := range row {
		row[i] = i % 4
	}
	l := c.Chances([]byte("b"), row)
	if len(l) != 1<<19 || l[0] != 2 || l[1<<19-1] != 1<<18*20-1 || !slices.IsSorted(l) {
		t.Errorf("long: %d chances", len(l))
	}
}
