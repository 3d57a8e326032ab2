package trie_test

import (
	"bytes"
	"math"
	"slices"
	"strings"
	"sync"
	"testing"

	"verbatim/trie"
)

// beginning, ending and containing are the chapter's words, byte string by byte string.
func beginning(l [][]byte, s []byte) []int {
	return those(l, func(text []byte) bool { return standsAt(text, s, 0) })
}

func ending(l [][]byte, s []byte) []int {
	return those(l, func(text []byte) bool { return standsAt(text, s, len(text)-len(s)) })
}

func containing(l [][]byte, s []byte) []int {
	return those(l, func(text []byte) bool {
		for at := range len(text) + 1 {
			if standsAt(text, s, at) {
				return true
			}
		}
		return false
	})
}

// standsAt tells whether s is the bytes of a text from one of them on.
func standsAt(text, s []byte, at int) bool {
	if at < 0 || at+len(s) > len(text) {
		return false
	}
	for i := range s {
		if text[at+i] != s[i] {
			return false
		}
	}
	return true
}

func those(l [][]byte, is func(text []byte) bool) []int {
	var at []int
	for i, text := range l {
		if is(text) {
			at = append(at, i)
		}
	}
	return at
}

// dice are numbers that look like chance and are the same each time.
type dice uint64

func (x *dice) next() uint64 {
	*x = *x*6364136223846793005 + 1442695040888963407
	return uint64(*x) ^ uint64(*x)>>29
}

func (x *dice) roll(n int) int { return int(x.next() >> 33 % uint64(n)) }

// text is up to n bytes, of so many letters.
func (x *dice) text(n, letters int) []byte {
	b := []byte{}
	for range x.roll(n + 1) {
		b = append(b, byte('a'+x.roll(letters)))
	}
	return b
}

// sample is texts, and what is special about them.
type sample struct {
	name  string
	texts [][]byte
}

// samples are lists of texts of each kind, in the same order each time.
func samples() []sample {
	l := []sample{
		{"none", nil},
		{"no bytes", split("")},
		{"the chapter's", split("ab ba b")},
		{"the same ones", split("ab  ab b ab b ")},
		{"each within the next one", split("a ba bab babc abcba")},
		{"one byte, again and again", split("aaaa a aaa aaaaaaaaaaaaaaaa aa")},
		{"16 bytes", split("0123456789abcdef fedcba9876543210 0123456789abcdeg")},
		{"any bytes", [][]byte{{0}, {0, 0}, {255, 0, 128}, {128}, {0, 255}, {0x80, 0xff}, []byte("ä"), []byte("\xc3")}},
		{"512", many(512)},
		{"512 times no bytes", make([][]byte, 512)},
	}
	x := dice(1)
	for i := range 12 {
		s := sample{name: "chance"}
		for range x.roll(40) {
			s.texts = append(s.texts, x.text(1+x.roll(16), 1+i%4))
		}
		l = append(l, s)
	}
	return l
}

// split is texts that are written with blanks between them.
func split(s string) [][]byte {
	var l [][]byte
	for _, text := range strings.Split(s, " ") {
		l = append(l, []byte(text))
	}
	return l
}

// many are n texts of 16 bytes each.
func many(n int) [][]byte {
	x := dice(2)
	var l [][]byte
	for range n {
		text := make([]byte, 16)
		for i := range text {
			text[i] = byte('a' + x.roll(8))
		}
		l = append(l, text)
	}
	return l
}

// sought is what is looked for in a sample: each piece of some of its texts, with another byte ahead of it, behind it and in its place.
func sought(l [][]byte) [][]byte {
	s := [][]byte{nil, {}, {0}, {'a'}, {255}, []byte("ab"), []byte("zz"), bytes.Repeat([]byte("a"), 16), bytes.Repeat([]byte("a"), 17)}
	for _, text := range l[:min(len(l), 30)] {
		for from := range len(text) + 1 {
			for to := from; to <= len(text); to++ {
				piece := text[from:to]
				s = append(s, piece, slices.Concat(piece, []byte("b")), slices.Concat([]byte("b"), piece))
			}
		}
		for i := range text {
			other := bytes.Clone(text)
			other[i] ^= 1
			s = append(s, other)
		}
	}
	return s
}

func wantTrie(t *testing.T, l [][]byte) *trie.Trie {
	t.Helper()
	x := trie.New(l)
	if x == nil {
		t.Fatalf("no trie of %d texts", len(l))
	}
	return x
}

// wantFound holds all three against the chapter's words.
func wantFound(t *testing.T, what string, x *trie.Trie, l [][]byte, s []byte) {
	t.Helper()
	wantList(t, what+": prefix", s, x.Prefix(s), beginning(l, s))
	wantList(t, what+": suffix", s, x.Suffix(s), ending(l, s))
	wantList(t, what+": infix", s, x.Infix(s), containing(l, s))
}

func wantList(t *testing.T, what string, s []byte, l, want []int) {
	t.Helper()
	if !slices.Equal(l, want) {
		t.Errorf("%s %q: %v, want %v", what, s, l, want)
	}
}

// TestP71Known is the chapter's example, and what can be told by hand.
func TestP71Known(t *testing.T) {
	for _, c := range []struct {
		texts, s              string
		prefix, suffix, infix []int
	}{
		{"ab ba b", "b", []int{1, 2}, []int{0, 2}, []int{0, 1, 2}},
		{"ab ba b", "", []int{0, 1, 2}, []int{0, 1, 2}, []int{0, 1, 2}},
		{"ab ba b", "ab", []int{0}, []int{0}, []int{0}},
		{"ab ba b", "aba", nil, nil, nil},
		{"ab ba b", "c", nil, nil, nil},
		{"abc", "b", nil, nil, []int{0}},
		{"abc", "ac", nil, nil, nil},
		{"abc", "bc", nil, []int{0}, []int{0}},
		{"abc", "ab", []int{0}, nil, []int{0}},
		{"abc", "ba", nil, nil, nil},
		{"abc", "abcd", nil, nil, nil},
		{"aaa", "aa", []int{0}, []int{0}, []int{0}},
		{"x ab x ab ab", "ab", []int{1, 3, 4}, []int{1, 3, 4}, []int{1, 3, 4}},
		{"", "", []int{0}, []int{0}, []int{0}},
		{"", "a", nil, nil, nil},
		{"a  a", "", []int{0, 1, 2}, []int{0, 1, 2}, []int{0, 1, 2}},
		{"xaay aa ya", "aa", []int{1}, []int{1}, []int{0, 1}},
		{"0123456789abcdef", "0123456789abcdef", []int{0}, []int{0}, []int{0}},
		{"0123456789abcdef", "123456789abcdef", nil, []int{0}, []int{0}},
		{"0123456789abcdef", "0123456789abcde", []int{0}, nil, []int{0}},
		{"0123456789abcdef", "0123456789abcdefg", nil, nil, nil},
	} {
		x := wantTrie(t, split(c.texts))
		wantList(t, c.texts+": prefix", []byte(c.s), x.Prefix([]byte(c.s)), c.prefix)
		wantList(t, c.texts+": suffix", []byte(c.s), x.Suffix([]byte(c.s)), c.suffix)
		wantList(t, c.texts+": infix", []byte(c.s), x.Infix([]byte(c.s)), c.infix)
	}
}

// TestP71New: there is a trie up to the limits, and none beyond.
func TestP71New(t *testing.T) {
	long := make([]byte, 17)
	for _, c := range []struct {
		name  string
		texts [][]byte
		is    bool
	}{
		{"nil", nil, true},
		{"no texts", [][]byte{}, true},
		{"no bytes", [][]byte{nil, {}}, true},
		{"511", many(511), true},
		{"512", many(512), true},
		{"513", many(513), false},
		{"513 times no bytes", make([][]byte, 513), false},
		{"512 times no bytes", make([][]byte, 512), true},
		{"16 bytes", [][]byte{long[:16]}, true},
		{"17 bytes", [][]byte{long}, false},
		{"17 bytes ahead of another one", [][]byte{long, {1}}, false},
		{"17 bytes behind others", [][]byte{{1}, {2}, long}, false},
		{"17 bytes behind 511 others", append(many(511), long), false},
		{"513, one of them of 17 bytes", append(many(512), long), false},
		{"very long", [][]byte{make([]byte, 1<<20)}, false},
		{"very many", make([][]byte, 1<<20), false},
	} {
		if x := trie.New(c.texts); (x != nil) != c.is {
			t.Errorf("%s: %v", c.name, x != nil)
		}
	}
}

// TestP71Samples holds all that is sought in all samples against the chapter's words.
func TestP71Samples(t *testing.T) {
	for _, c := range samples() {
		x := wantTrie(t, c.texts)
		for _, s := range sought(c.texts) {
			wantFound(t, c.name, x, c.texts, s)
		}
	}
}

// TestP71All: all texts of few letters, and all that can be sought of these.
func TestP71All(t *testing.T) {
	all := [][]byte{{}}
	for i := 0; len(all) < 127; i++ {
		all = append(all, slices.Concat(all[i], []byte("a")), slices.Concat(all[i], []byte("b")))
	}
	x := wantTrie(t, all)
	for _, s := range all {
		wantFound(t, "all", x, all, s)
		wantFound(t, "alone", wantTrie(t, [][]byte{s}), [][]byte{s}, s)
		wantFound(t, "all, and another byte", x, all, slices.Concat(s, []byte("c")))
	}
}

// TestP71Bytes: each byte is another one.
func TestP71Bytes(t *testing.T) {
	var l [][]byte
	for c := range 256 {
		l = append(l, []byte{byte(c), byte(255 - c)})
	}
	x := wantTrie(t, l)
	for c := range 256 {
		wantFound(t, "pairs", x, l, []byte{byte(c)})
		wantFound(t, "pairs", x, l, l[c])
		wantFound(t, "pairs", x, l, []byte{byte(c), byte(c)})
	}
}

// TestP71Chance: a full trie of texts of few letters, in which there are many of each.
func TestP71Chance(t *testing.T) {
	x := dice(3)
	for letters := 1; letters <= 4; letters++ {
		var l [][]byte
		for range 512 {
			l = append(l, x.text(16, letters))
		}
		full := wantTrie(t, l)
		for range 300 {
			wantFound(t, "chance", full, l, x.text(6, letters))
			wantFound(t, "chance", full, l, x.text(17, letters))
		}
	}
}

// TestP72 holds the three against each other.
func TestP72(t *testing.T) {
	for _, c := range samples() {
		x := wantTrie(t, c.texts)
		shorter := map[int]*trie.Trie{} // by how many bytes are cut off
		for cut := range 17 {
			shorter[cut] = wantTrie(t, cutOff(c.texts, cut))
		}
		for _, s := range sought(c.texts[:min(len(c.texts), 12)]) {
			in := x.Infix(s)
			for _, i := range slices.Concat(x.Prefix(s), x.Suffix(s)) {
				if !slices.Contains(in, i) {
					t.Errorf("%s: %d begins or ends with %q, and has it not within it", c.name, i, s)
				}
			}
			for cut := range 17 {
				for _, i := range shorter[cut].Prefix(s) {
					if len(c.texts[i]) >= cut && !slices.Contains(in, i) {
						t.Errorf("%s: %d begins with %q without %d bytes, and has it not within it", c.name, i, s, cut)
					}
				}
			}
			for _, i := range in {
				if !beginsCut(shorter, s, i) {
					t.Errorf("%s: %d has %q within it, and begins with it nowhere", c.name, i, s)
				}
			}
		}
	}
}

// cutOff is the texts without so many bytes at the beginning.
func cutOff(l [][]byte, n int) [][]byte {
	var cut [][]byte
	for _, text := range l {
		cut = append(cut, text[min(n, len(text)):])
	}
	return cut
}

// beginsCut tells whether text i begins with s after some bytes are cut off.
func beginsCut(shorter map[int]*trie.Trie, s []byte, i int) bool {
	for cut := range len(shorter) {
		if slices.Contains(shorter[cut].Prefix(s), i) {
			return true
		}
	}
	return false
}

// spoil overwrites a list, with its spare capacity.
func spoil[T byte | int](l []T) {
	l = l[:cap(l)]
	for i := range l {
		l[i] = 77
	}
}

// TestP3TakesNothing: what is passed is not changed, and what lies behind it is not read.
func TestP3TakesNothing(t *testing.T) {
	room := []byte("abcabd")
	texts := [][]byte{room[:2], room[3:5], nil, []byte("xyz"), []byte("ab")}
	x := wantTrie(t, texts[:3:4])
	if string(room) != "abcabd" || string(texts[3]) != "xyz" || string(texts[4]) != "ab" {
		t.Error("texts were changed")
	}
	s := []byte("abcd")
	wantFound(t, "ahead of others", x, texts[:3], s[:2])
	wantFound(t, "ahead of others", x, texts[:3], s[1:2:2])
	wantFound(t, "ahead of others", x, texts[:3], s[:3])
	if string(s) != "abcd" {
		t.Error("what is sought was changed")
	}
}

// TestP3KeepsNothing: a trie goes on as it was made, whatever becomes of the texts.
func TestP3KeepsNothing(t *testing.T) {
	for _, c := range samples() {
		var texts [][]byte
		for _, text := range c.texts {
			texts = append(texts, bytes.Clone(text))
		}
		x := wantTrie(t, texts)
		for _, text := range texts {
			spoil(text)
		}
		clear(texts)
		for _, s := range sought(c.texts[:min(len(c.texts), 5)]) {
			piece := bytes.Clone(s)
			for range 2 {
				wantFound(t, c.name, x, c.texts, piece)
			}
			spoil(piece)
			wantFound(t, c.name, x, c.texts, s)
		}
	}
}

// TestP3IsNew: no list that is returned shares memory with the trie, or with another one.
func TestP3IsNew(t *testing.T) {
	l := split("ab ba b abab  ab")
	x := wantTrie(t, l)
	for _, s := range split("ab b  a ba abab") {
		for range 2 {
			lists := [][]int{x.Prefix(s), x.Suffix(s), x.Infix(s), x.Infix(s), x.Suffix(s), x.Prefix(s)}
			for i := range 3 {
				spoil(lists[i])
			}
			wantList(t, "infix", s, lists[3], containing(l, s))
			wantList(t, "suffix", s, lists[4], ending(l, s))
			wantList(t, "prefix", s, lists[5], beginning(l, s))
			for i := range lists {
				spoil(lists[i])
			}
			wantFound(t, "spoiled", x, l, s)
		}
	}
}

// TestP3SameAnswer: a call hangs on no call ahead of it, and one trie on no other.
func TestP3SameAnswer(t *testing.T) {
	l, m := split("ab ba b"), split("b ab ba bb")
	x, y := wantTrie(t, l), wantTrie(t, m)
	for range 3 {
		for _, s := range split("b zz  ab bb aba") {
			wantFound(t, "one", x, l, s)
			wantFound(t, "other", y, m, s)
		}
		trie.New(many(513))
	}
}

// TestP3Reading: many may look for something at the same time, since looking changes nothing.
func TestP3Reading(t *testing.T) {
	l := many(100)
	x := wantTrie(t, l)
	var all sync.WaitGroup
	for i := range 8 {
		all.Go(func() {
			for _, text := range l[i*12 : i*12+12] {
				wantFound(t, "at the same time", x, l, text[3:6])
				wantFound(t, "at the same time", x, l, []byte("not there"))
			}
		})
	}
	all.Wait()
}

// TestP1Long ends soon, however long what is sought is.
func TestP1Long(t *testing.T) {
	for _, c := range samples() {
		x := wantTrie(t, c.texts)
		for _, long := range [][]byte{make([]byte, 1<<20), bytes.Repeat([]byte("a"), 1<<20), bytes.Repeat([]byte("ab"), math.MaxUint16)} {
			for range 50 {
				if l := slices.Concat(x.Prefix(long), x.Suffix(long), x.Infix(long)); len(l) > 0 {
					t.Errorf("%s: %v", c.name, l)
				}
			}
		}
	}
}
