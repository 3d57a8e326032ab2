package vocab

import (
	"slices"

	"verbatim/api"
)

// singles is how many single bytes there are.
const singles = 256

// growing is a vocabulary to which tokens and merges are added. The maps find what is there already: which token a text is, and which pairs have a merge.
type growing struct {
	api.Vocab
	tokens map[string]int
	pairs  map[api.Pair]struct{}
}

func newGrowing() *growing {
	return &growing{tokens: map[string]int{}, pairs: map[api.Pair]struct{}{}}
}

// addToken puts a token behind the others, and tells its index.
func (g *growing) addToken(token []byte) int {
	i := len(g.Tokens)
	g.Tokens = append(g.Tokens, token)
	g.tokens[string(token)] = i
	return i
}

// addMerge puts a merge behind the others.
func (g *growing) addMerge(m api.Merge) {
	g.Merges = append(g.Merges, m)
	g.pairs[pairOf(m)] = struct{}{}
}

// addPair puts a merge of a pair behind the others, and the token that it makes if that is new.
func (g *growing) addPair(p api.Pair) api.Errno {
	if !g.isFree(p) {
		return api.ErrMerge
	}
	both := g.joined(p)
	if len(both) > api.MaxToken {
		return api.ErrToken
	}
	to, there := g.tokens[string(both)]
	if len(g.Merges) == api.MaxMerges || !there && len(g.Tokens) == api.MaxTokens {
		return api.ErrTooMany
	}
	if !there {
		to = g.addToken(both)
	}
	g.addMerge(api.Merge{A: p.A, B: p.B, To: to})
	return api.OK
}

// mayAdd tells whether this would be a token, and is none yet. Its length comes first: what is too long need not be looked for.
func (g *growing) mayAdd(token []byte) bool {
	return len(token) > 0 && len(token) <= api.MaxToken && !g.hasToken(token)
}

// mayMerge tells whether this would be a merge, and is none yet. No two tokens are the same, so only one can be what it makes.
func (g *growing) mayMerge(m api.Merge) bool {
	p := pairOf(m)
	if !g.isFree(p) {
		return false
	}
	to, there := g.tokens[string(g.joined(p))]
	return there && to == m.To
}

// isFree tells whether a pair is of tokens that are there, and has no merge yet.
func (g *growing) isFree(p api.Pair) bool {
	_, merged := g.pairs[p]
	return g.isIndex(p.A) && g.isIndex(p.B) && !merged
}

// joined is the bytes of a pair's tokens, in memory of their own.
func (g *growing) joined(p api.Pair) []byte {
	return slices.Concat(g.Tokens[p.A], g.Tokens[p.B])
}

func (g *growing) isIndex(i int) bool {
	return i >= 0 && i < len(g.Tokens)
}

func (g *growing) hasToken(token []byte) bool {
	_, there := g.tokens[string(token)]
	return there
}

func (g *growing) hasSingles() bool {
	for c := range singles {
		if !g.hasToken([]byte{byte(c)}) {
			return false
		}
	}
	return true
}

func pairOf(m api.Merge) api.Pair {
	return api.Pair{A: m.A, B: m.B}
}
