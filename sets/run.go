package sets

// run is documents without a gap: the first one, and how many they are. As they are known at once, what has many of them is not gone through one by one.
type run struct {
	doc  int64
	many int64
}

// from is what it has from a document on.
func (r run) from(doc int64) run {
	gone := max(doc, r.doc) - r.doc
	if gone >= r.many {
		return run{}
	}
	return run{doc: r.doc + gone, many: r.many - gone}
}
