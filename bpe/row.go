package bpe

import (
	"cmp"
	"slices"
	"sort"

	"verbatim/api"
)

// row is the tokens of a text while they are merged. A token's place is the byte at which it begins, so that a merge moves none of the others.
type row struct {
	coder  *Coder
	at     []int // the token at each place
	before []int // the place of the token before it, -1 if it is the first one; the end of the text is a place here
	behind []int // the place of the token behind it, or the end
	steps  []step
}

// step is a merge that is possible, of the token at a place with the one behind it.
type step struct {
	rank  int
	place int
}

// newRow is the single bytes of a text, with each merge that is possible of them.
func (c *Coder) newRow(text []byte) *row {
	r := &row{coder: c}
	for place, b := range text {
		r.at = append(r.at, c.singles[b])
		r.before = append(r.before, place-1)
		r.behind = append(r.behind, place+1)
	}
	r.before = append(r.before, len(text)-1)
	for place := range text {
		if s, ok := r.stepAt(place); ok {
			r.steps = append(r.steps, s)
		}
	}
	slices.SortFunc(r.steps, downwards)
	return r
}

// mergeFirst does the first step. Only the pairs that the two tokens were in become other ones by it.
func (r *row) mergeFirst() {
	first := r.steps[len(r.steps)-1]
	place := first.place
	gone := r.behind[place]
	r.drop(r.before[place])
	r.drop(place)
	r.drop(gone)
	r.at[place] = r.coder.merges[first.rank].To
	r.behind[place] = r.behind[gone]
	r.before[r.behind[gone]] = place
	r.add(r.before[place])
	r.add(place)
}

// add stores the step at a place, if there is one.
func (r *row) add(place int) {
	if s, ok := r.stepAt(place); ok {
		r.steps = slices.Insert(r.steps, r.find(s), s)
	}
}

// drop takes away the step at a place, if there is one.
func (r *row) drop(place int) {
	if s, ok := r.stepAt(place); ok {
		i := r.find(s)
		r.steps = slices.Delete(r.steps, i, i+1)
	}
}

// find tells where a step is stored, or would be.
func (r *row) find(s step) int {
	return sort.Search(len(r.steps), func(i int) bool {
		return downwards(r.steps[i], s) >= 0
	})
}

// stepAt is the merge of the token at a place with the one behind it, if these have one.
func (r *row) stepAt(place int) (step, bool) {
	if place < 0 || r.behind[place] == len(r.at) {
		return step{}, false
	}
	rank, ok := r.coder.ranks[api.Pair{A: r.at[place], B: r.at[r.behind[place]]}]
	return step{rank: rank, place: place}, ok
}

// list is the tokens, one behind the other.
func (r *row) list() []int {
	var l []int
	for place := 0; place < len(r.at); place = r.behind[place] {
		l = append(l, r.at[place])
	}
	return l
}

// downwards holds steps against each other: the earliest merge, and the leftmost of its places, comes last, where it is taken away without a move of the others.
func downwards(s, t step) int {
	return cmp.Or(cmp.Compare(t.rank, s.rank), cmp.Compare(t.place, s.place))
}
