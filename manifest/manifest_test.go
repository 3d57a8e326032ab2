package manifest_test

import (
	"bytes"
	"math"
	"slices"
	"strconv"
	"testing"

	"verbatim/api"
	"verbatim/frame"
	"verbatim/leb"
	"verbatim/manifest"
)

// The bounds, as the chapter gives them.
const (
	maxNum   = 1 << 40
	maxRefs  = 24
	maxDocs  = 64
	maxLevel = 16
)

// isValid is the chapter's words.
func isValid(m api.Manifest) bool {
	if m.Gen < 0 || m.Gen > maxNum || m.Next < 1 || m.Next > maxNum || len(m.Refs) > maxRefs {
		return false
	}
	times := map[int64]int{}
	for i, r := range m.Refs {
		if r.Num < 1 || r.Num >= m.Next || i > 0 && r.Num <= m.Refs[i-1].Num {
			return false
		}
		if r.Docs < 0 || r.Docs > maxDocs || r.Level < 0 || r.Level > maxLevel {
			return false
		}
		if r.Dels != 0 && (r.Dels < 1 || r.Dels >= m.Next) {
			return false
		}
		times[r.Num]++
		if r.Dels != 0 {
			times[r.Dels]++
		}
	}
	for _, n := range times {
		if n > 1 {
			return false
		}
	}
	return true
}

// integers are those that a manifest's frame has.
func integers(m api.Manifest) []uint64 {
	l := []uint64{uint64(m.Gen), uint64(m.Next), uint64(len(m.Refs))}
	for _, r := range m.Refs {
		l = append(l, uint64(r.Num), uint64(r.Docs), uint64(r.Level), uint64(r.Dels))
	}
	return l
}

// framed is a frame of integers.
func framed(l ...uint64) []byte {
	var b []byte
	for _, n := range l {
		b = append(b, leb.Put(n)...)
	}
	return frame.Put(b)
}

// getPlain is the chapter's words: which manifest has these bytes, and whether there is one.
func getPlain(b []byte) (api.Manifest, bool) {
	frames, e := frame.All(b)
	if e != api.OK || len(frames) != 1 {
		return api.Manifest{}, false
	}
	var l []int64
	for rest := frames[0]; len(rest) > 0; {
		n, long, e := leb.Get(rest)
		if e != api.OK || n > maxNum {
			return api.Manifest{}, false
		}
		l, rest = append(l, int64(n)), rest[long:]
	}
	if len(l) < 3 || l[2] > maxRefs || int64(len(l)) != 3+4*l[2] {
		return api.Manifest{}, false
	}
	m := api.Manifest{Gen: l[0], Next: l[1]}
	for four := range slices.Chunk(l[3:], 4) {
		m.Refs = append(m.Refs, api.Ref{Num: four[0], Docs: int(four[1]), Level: int(four[2]), Dels: four[3]})
	}
	if !isValid(m) {
		return api.Manifest{}, false
	}
	return m, true
}

func isSame(a, b api.Manifest) bool {
	return a.Gen == b.Gen && a.Next == b.Next && slices.Equal(a.Refs, b.Refs)
}

func isZero(m api.Manifest) bool { return m.Gen == 0 && m.Next == 0 && len(m.Refs) == 0 }

// dice are numbers that look like chance and are the same each time.
type dice uint64

func (x *dice) next() uint64 {
	*x = *x*6364136223846793005 + 1442695040888963407
	return uint64(*x) ^ uint64(*x)>>29
}

func (x *dice) roll(n int) int { return int(x.next() >> 33 % uint64(n)) }

// manifest is a valid one, of small numbers or great ones.
func (x *dice) manifest() api.Manifest {
	step := []int{2, 9, 1 << 20, 1 << 30}[x.roll(4)]
	m := api.Manifest{Gen: int64(x.roll(step)) * int64(x.roll(100)), Next: 1}
	take := func() int64 {
		n := m.Next + int64(x.roll(step))
		m.Next = n + 1
		return n
	}
	for range x.roll(maxRefs + 1) {
		early := int64(0)
		if x.roll(3) == 0 {
			early = take()
		}
		m.Refs = append(m.Refs, api.Ref{Num: take(), Docs: x.roll(maxDocs + 1), Level: x.roll(maxLevel + 1), Dels: early})
	}
	for i := range m.Refs {
		if m.Refs[i].Dels == 0 && x.roll(3) == 0 {
			m.Refs[i].Dels = take()
		}
	}
	return m
}

// spoiled is a manifest with one number changed.
func (x *dice) spoiled(m api.Manifest) api.Manifest {
	m.Refs = slices.Clone(m.Refs)
	near := func(n int64) int64 {
		l := []int64{n - 1, n + 1, -n, 0, -1, 1, 16, 17, 64, 65, m.Next - 1, m.Next, m.Next + 1, maxNum - 1, maxNum, maxNum + 1}
		return l[x.roll(len(l))]
	}
	at := x.roll(2 + 4*len(m.Refs))
	switch at {
	case 0:
		m.Gen = near(m.Gen)
		return m
	case 1:
		m.Next = near(m.Next)
		return m
	}
	r, other := &m.Refs[at/4%len(m.Refs)], m.Refs[x.roll(len(m.Refs))]
	switch x.roll(6) {
	case 0:
		r.Num = near(r.Num)
	case 1:
		r.Num = near(other.Num)
	case 2:
		r.Docs = int(near(int64(r.Docs)))
	case 3:
		r.Level = int(near(int64(r.Level)))
	case 4:
		r.Dels = near(other.Num)
	case 5:
		r.Dels = other.Dels
	}
	return m
}

// of is the manifest of some segments.
func of(gen, next int64, refs ...api.Ref) api.Manifest {
	return api.Manifest{Gen: gen, Next: next, Refs: refs}
}

// nums are segments of these numbers.
func nums(l ...int64) []api.Ref {
	var refs []api.Ref
	for _, n := range l {
		refs = append(refs, api.Ref{Num: n})
	}
	return refs
}

// upTo are the segments 1 to n.
func upTo(n int64) []api.Ref {
	var refs []api.Ref
	for i := range n {
		refs = append(refs, api.Ref{Num: i + 1})
	}
	return refs
}

// goods are valid manifests, up to each edge.
func goods() []api.Manifest {
	full := of(maxNum, maxNum)
	for i := range int64(maxRefs) {
		full.Refs = append(full.Refs, api.Ref{Num: maxNum - 2*maxRefs + 2*i, Docs: maxDocs, Level: maxLevel, Dels: maxNum - 2*maxRefs + 2*i + 1})
	}
	return []api.Manifest{
		of(0, 1),
		of(1, 1),
		of(0, maxNum),
		of(maxNum, 1),
		of(maxNum, maxNum),
		of(127, 128),
		of(128, 127),
		of(3, 2, api.Ref{Num: 1}),
		of(3, 9, api.Ref{Num: 2, Docs: 5, Level: 1, Dels: 7}, api.Ref{Num: 8}),
		of(3, 9, api.Ref{Num: 8}),
		of(3, 9, api.Ref{Num: 1, Dels: 8}),
		of(3, 9, api.Ref{Num: 8, Dels: 1}),
		of(3, 9, api.Ref{Num: 8, Docs: 64}),
		of(3, 9, api.Ref{Num: 8, Level: 16}),
		of(3, 9, api.Ref{Num: 3, Dels: 5}, api.Ref{Num: 4, Dels: 2}),
		of(3, 9, api.Ref{Num: 3, Dels: 8}, api.Ref{Num: 4, Dels: 7}, api.Ref{Num: 5, Dels: 6}),
		of(3, 9, api.Ref{Num: 3, Docs: 3, Level: 3}, api.Ref{Num: 4, Docs: 3, Level: 3}),
		of(3, 25, upTo(24)...),
		of(3, maxNum, upTo(24)...),
		of(3, maxNum, nums(1, 1<<32+1, maxNum-1)...),
		full,
	}
}

// bads are manifests that are not valid.
func bads() map[string]api.Manifest {
	return map[string]api.Manifest{
		"zero":                            {},
		"next 0":                          of(5, 0),
		"next -1":                         of(5, -1),
		"next too great":                  of(5, maxNum+1),
		"next the greatest":               of(5, math.MaxInt64),
		"next the least":                  of(5, math.MinInt64),
		"gen -1":                          of(-1, 1),
		"gen too great":                   of(maxNum+1, 1),
		"gen the greatest":                of(math.MaxInt64, 1),
		"gen the least":                   of(math.MinInt64, 1),
		"25 segments":                     of(3, 100, upTo(25)...),
		"1000 segments":                   of(3, 10000, upTo(1000)...),
		"num 0":                           of(3, 9, api.Ref{}),
		"num -1":                          of(3, 9, api.Ref{Num: -1}),
		"num the least":                   of(3, 9, api.Ref{Num: math.MinInt64}),
		"num the greatest":                of(3, 9, api.Ref{Num: math.MaxInt64}),
		"num next":                        of(3, 9, api.Ref{Num: 9}),
		"num above next":                  of(3, 9, api.Ref{Num: 10}),
		"num the greatest next":           of(3, maxNum, api.Ref{Num: maxNum}),
		"a num where next is 1":           of(3, 1, api.Ref{Num: 1}),
		"second num 0":                    of(3, 9, nums(1, 0)...),
		"second num next":                 of(3, 9, nums(1, 9)...),
		"second num less":                 of(3, 9, nums(2, 1)...),
		"second num equal":                of(3, 9, nums(2, 2)...),
		"third num like the first":        of(3, 9, nums(2, 3, 2)...),
		"third num between":               of(3, 9, nums(2, 5, 3)...),
		"docs -1":                         of(3, 9, api.Ref{Num: 1, Docs: -1}),
		"docs 65":                         of(3, 9, api.Ref{Num: 1, Docs: 65}),
		"docs the greatest":               of(3, 9, api.Ref{Num: 1, Docs: math.MaxInt}),
		"docs the least":                  of(3, 9, api.Ref{Num: 1, Docs: math.MinInt}),
		"second docs 65":                  of(3, 9, api.Ref{Num: 1}, api.Ref{Num: 2, Docs: 65}),
		"level -1":                        of(3, 9, api.Ref{Num: 1, Level: -1}),
		"level 17":                        of(3, 9, api.Ref{Num: 1, Level: 17}),
		"level the greatest":              of(3, 9, api.Ref{Num: 1, Level: math.MaxInt}),
		"level the least":                 of(3, 9, api.Ref{Num: 1, Level: math.MinInt}),
		"dels -1":                         of(3, 9, api.Ref{Num: 1, Dels: -1}),
		"dels next":                       of(3, 9, api.Ref{Num: 1, Dels: 9}),
		"dels above next":                 of(3, 9, api.Ref{Num: 1, Dels: 10}),
		"dels the greatest":               of(3, 9, api.Ref{Num: 1, Dels: math.MaxInt64}),
		"dels the least":                  of(3, 9, api.Ref{Num: 1, Dels: math.MinInt64}),
		"dels the same num":               of(3, 9, api.Ref{Num: 1, Dels: 1}),
		"dels a later num":                of(3, 9, api.Ref{Num: 1, Dels: 2}, api.Ref{Num: 2}),
		"dels an earlier num":             of(3, 9, api.Ref{Num: 1}, api.Ref{Num: 2, Dels: 1}),
		"dels twice":                      of(3, 9, api.Ref{Num: 1, Dels: 5}, api.Ref{Num: 2, Dels: 5}),
		"dels twice, one between":         of(3, 9, api.Ref{Num: 1, Dels: 5}, api.Ref{Num: 2, Dels: 6}, api.Ref{Num: 3, Dels: 5}),
		"dels twice, one without between": of(3, 9, api.Ref{Num: 1, Dels: 5}, api.Ref{Num: 2}, api.Ref{Num: 3, Dels: 5}),
		"dels a num far away":             of(3, 9, api.Ref{Num: 1, Dels: 7}, api.Ref{Num: 4, Dels: 6}, api.Ref{Num: 7}),
	}
}

// samples are valid manifests.
func samples() []api.Manifest {
	x := dice(7)
	l := goods()
	for range 300 {
		l = append(l, x.manifest())
	}
	return l
}

// wantCheck holds what is told of a manifest, and its bytes, against what should be.
func wantCheck(t *testing.T, name string, m api.Manifest) {
	t.Helper()
	want := api.ErrArg
	if isValid(m) {
		want = api.OK
	}
	if e := manifest.Check(m); e != want {
		t.Fatalf("%s: Check(%v) = %d, want %d", name, m, e, want)
	}
	b, e := manifest.Put(m)
	if e != want {
		t.Fatalf("%s: Put(%v) is error %d, want %d", name, m, e, want)
	}
	if want != api.OK && b != nil {
		t.Fatalf("%s: Put(%v) = %x, want nil", name, m, b)
	}
	if want == api.OK && !bytes.Equal(b, framed(integers(m)...)) {
		t.Fatalf("%s: Put(%v) = %x, want %x", name, m, b, framed(integers(m)...))
	}
}

// wantGet holds what is read against what should be.
func wantGet(t *testing.T, name string, b []byte) {
	t.Helper()
	want, is := getPlain(b)
	got, e := manifest.Get(b)
	if is && (e != api.OK || !isSame(got, want)) {
		t.Fatalf("%s: Get(%x) = %v, error %d, want %v", name, b, got, e, want)
	}
	if !is && (e != api.ErrCorrupt || !isZero(got)) {
		t.Fatalf("%s: Get(%x) = %v, error %d, want none, %d", name, b, got, e, api.ErrCorrupt)
	}
}

func TestP151CheckEdges(t *testing.T) {
	for i, m := range goods() {
		name := "good " + strconv.Itoa(i)
		if e := manifest.Check(m); e != api.OK {
			t.Errorf("%s: error %d, want none", name, e)
		}
		wantCheck(t, name, m)
	}
	for name, m := range bads() {
		if e := manifest.Check(m); e != api.ErrArg {
			t.Errorf("%s: error %d, want %d", name, e, api.ErrArg)
		}
		wantCheck(t, name, m)
	}
}

func TestP151CheckChance(t *testing.T) {
	x := dice(1)
	good := 0
	const tries = 20000
	for range tries {
		m := x.manifest()
		if !isValid(m) {
			t.Fatalf("%v", m)
		}
		wantCheck(t, "chance", m)
		m = x.spoiled(m)
		wantCheck(t, "spoiled", m)
		if isValid(m) {
			good++
		}
	}
	if good < tries/10 || good > tries*9/10 {
		t.Errorf("%d of %d spoiled ones are valid: no test of either", good, tries)
	}
}

func TestP151PutKnown(t *testing.T) {
	for _, c := range []struct {
		m    api.Manifest
		want string
	}{
		{of(0, 1), "\x00\x01\x00"},
		{of(5, 7), "\x05\x07\x00"},
		{of(300, 128), "\xac\x02\x80\x01\x00"},
		{of(maxNum, maxNum), "\x80\x80\x80\x80\x80\x20\x80\x80\x80\x80\x80\x20\x00"},
		{of(3, 9, api.Ref{Num: 2, Docs: 5, Level: 1, Dels: 7}, api.Ref{Num: 8}), "\x03\x09\x02\x02\x05\x01\x07\x08\x00\x00\x00"},
		{of(3, 400, api.Ref{Num: 300, Docs: 64, Level: 16}), "\x03\x90\x03\x01\xac\x02\x40\x10\x00"},
		{of(3, 400, api.Ref{Num: 1, Dels: 300}), "\x03\x90\x03\x01\x01\x00\x00\xac\x02"},
	} {
		want := frame.Put([]byte(c.want))
		if b, e := manifest.Put(c.m); e != api.OK || !bytes.Equal(b, want) {
			t.Errorf("Put(%v) = %x, error %d, want %x", c.m, b, e, want)
		}
		if m, e := manifest.Get(want); e != api.OK || !isSame(m, c.m) {
			t.Errorf("Get(%x) = %v, error %d, want %v", want, m, e, c.m)
		}
	}
}

func TestP151GetWrong(t *testing.T) {
	good := framed(3, 9, 1, 2, 5, 1, 7)
	for name, b := range map[string][]byte{
		"nil":                      nil,
		"no bytes":                 {},
		"a byte":                   {0},
		"no frame":                 []byte("\x03\x09\x00"),
		"an empty frame":           frame.Put(nil),
		"a byte behind":            append(slices.Clone(good), 0),
		"a frame behind":           append(slices.Clone(good), good...),
		"an empty frame behind":    append(slices.Clone(good), frame.Put(nil)...),
		"an empty frame ahead":     append(frame.Put(nil), good...),
		"a byte ahead":             append([]byte{0}, good...),
		"a frame in a frame":       frame.Put(good),
		"a frame for each":         append(framed(3, 9), framed(0)...),
		"gen alone":                framed(3),
		"no number of segments":    framed(3, 9),
		"an integer behind":        framed(3, 9, 0, 0),
		"a segment too few":        framed(3, 9, 1),
		"a segment too many":       framed(3, 9, 0, 2, 5, 1, 7),
		"a dels too few":           framed(3, 9, 1, 2, 5, 1),
		"an integer too many":      framed(3, 9, 1, 2, 5, 1, 7, 0),
		"an integer without end":   frame.Put([]byte("\x03\x09\x80")),
		"a last one without end":   frame.Put([]byte("\x03\x09\x01\x02\x05\x01\x87")),
		"a long gen":               frame.Put([]byte("\x83\x00\x09\x00")),
		"a long number":            frame.Put([]byte("\x03\x09\x80\x00")),
		"a long dels":              frame.Put([]byte("\x03\x09\x01\x02\x05\x01\x87\x00")),
		"next 0":                   framed(3, 0, 0),
		"next too great":           framed(3, maxNum+1, 0),
		"gen too great":            framed(maxNum+1, 9, 0),
		"gen a negative int64":     framed(1<<63, 9, 0),
		"gen -1 as an int64":       framed(math.MaxUint64, 9, 0),
		"next -1 as an int64":      framed(3, math.MaxUint64, 0),
		"as many as there can't":   framed(3, 9, math.MaxUint64),
		"a negative many":          framed(3, 9, 1<<63),
		"many above 32 bits":       framed(3, 9, 1<<32),
		"many above 32 bits, 1":    framed(3, 9, 1<<32+1, 2, 5, 1, 7),
		"many beyond a byte":       framed(3, 9, 257, 2, 5, 1, 7),
		"many the greatest int64":  framed(3, 9, math.MaxInt64),
		"25 segments":              framed(integers(of(3, 100, upTo(25)...))...),
		"num 0":                    framed(3, 9, 1, 0, 5, 1, 7),
		"num next":                 framed(3, 9, 1, 9, 5, 1, 7),
		"num too great":            framed(3, 9, 1, 1<<63, 5, 1, 7),
		"docs 65":                  framed(3, 9, 1, 2, 65, 1, 7),
		"docs above 32 bits":       framed(3, 9, 1, 2, 1<<32+5, 1, 7),
		"docs -1 as an int":        framed(3, 9, 1, 2, math.MaxUint64, 1, 7),
		"level 17":                 framed(3, 9, 1, 2, 5, 17, 7),
		"level above 32 bits":      framed(3, 9, 1, 2, 5, 1<<32+1, 7),
		"level -1 as an int":       framed(3, 9, 1, 2, 5, math.MaxUint64, 7),
		"dels next":                framed(3, 9, 1, 2, 5, 1, 9),
		"dels too great":           framed(3, 9, 1, 2, 5, 1, 1<<63+7),
		"dels -1 as an int64":      framed(3, 9, 1, 2, 5, 1, math.MaxUint64),
		"dels the same num":        framed(3, 9, 1, 2, 5, 1, 2),
		"the nums fall":            framed(3, 9, 2, 2, 5, 1, 0, 1, 5, 1, 0),
		"the nums stay":            framed(3, 9, 2, 2, 5, 1, 0, 2, 5, 1, 0),
		"the dels stay":            framed(3, 9, 2, 2, 5, 1, 7, 3, 5, 1, 7),
		"more than a frame may":    frame.Put(make([]byte, 1<<18+1)),
		"as much as a frame may":   frame.Put(make([]byte, 1<<18)),
		"a great one that goes on": append(framed(integers(goods()[20])...), 1),
	} {
		if m, e := manifest.Get(b); e != api.ErrCorrupt || !isZero(m) {
			t.Errorf("%s: Get(%x) = %v, error %d, want none, %d", name, b, m, e, api.ErrCorrupt)
		}
		wantGet(t, name, b)
	}
	for name, m := range bads() {
		b := framed(integers(m)...)
		if got, e := manifest.Get(b); e != api.ErrCorrupt || !isZero(got) {
			t.Errorf("%s: Get(%x) = %v, error %d, want none, %d", name, b, got, e, api.ErrCorrupt)
		}
	}
}

// TestP151GetShort reads frames of all contents of three bytes, and less.
func TestP151GetShort(t *testing.T) {
	for n := range 1 << 16 {
		a, b := byte(n), byte(n>>8)
		wantGet(t, "two", frame.Put([]byte{a, b}))
		wantGet(t, "three", frame.Put([]byte{a, b, 0}))
	}
}

// TestP151GetChance reads the integers of a manifest with some of them changed, away, or doubled.
func TestP151GetChance(t *testing.T) {
	x := dice(2)
	for range 10000 {
		l := integers(x.manifest())
		for range x.roll(3) {
			i := x.roll(len(l))
			switch x.roll(5) {
			case 0:
				l[i] = x.next() >> x.roll(64)
			case 1:
				l[i]++
			case 2:
				l[i]--
			case 3:
				l = slices.Delete(l, i, i+1)
			case 4:
				l = slices.Insert(l, i, l[i])
			}
			if len(l) == 0 {
				break
			}
		}
		wantGet(t, "chance", framed(l...))
	}
}

func TestP151Truncated(t *testing.T) {
	for _, m := range goods() {
		b := framed(integers(m)...)
		for n := range b {
			if got, e := manifest.Get(b[:n]); e != api.ErrCorrupt || !isZero(got) {
				t.Fatalf("%v: of %x, %d bytes are %v, error %d", m, b, n, got, e)
			}
		}
	}
}

// TestP151Changed changes each byte to each other one.
func TestP151Changed(t *testing.T) {
	for _, m := range goods()[:15] {
		b := framed(integers(m)...)
		for i, old := range b {
			for by := 1; by < 256; by++ {
				b[i] = old ^ byte(by)
				wantGet(t, "changed", b)
			}
			b[i] = old
		}
	}
}

func TestP151Names(t *testing.T) {
	for num, want := range map[int64]string{
		0: "0", 1: "1", 7: "7", 12: "12", 100: "100", 1 << 32: "4294967296", maxNum: "1099511627776",
		math.MaxInt64: "9223372036854775807", -1: "-1", math.MinInt64: "-9223372036854775808",
	} {
		if got := manifest.Seg(num); got != "s."+want {
			t.Errorf("Seg(%d) = %q", num, got)
		}
		if got := manifest.Dels(num); got != "d."+want {
			t.Errorf("Dels(%d) = %q", num, got)
		}
	}
}

// TestP153 reads what is written, and writes what is read.
func TestP153(t *testing.T) {
	for _, m := range samples() {
		b, e := manifest.Put(m)
		if e != api.OK {
			t.Fatalf("%v: error %d, want none", m, e)
		}
		got, e := manifest.Get(b)
		if e != api.OK || !isSame(got, m) {
			t.Fatalf("%v is %v when it is read, error %d", m, got, e)
		}
		if again, e := manifest.Put(got); e != api.OK || !bytes.Equal(again, b) {
			t.Fatalf("%v: %x, and %x when it is read, error %d", m, b, again, e)
		}
	}
}

// TestP153OneWay has bytes that are a manifest be the bytes of that manifest.
func TestP153OneWay(t *testing.T) {
	x := dice(3)
	read := 0
	for range 10000 {
		l := integers(x.spoiled(x.manifest()))
		b := framed(l...)
		m, e := manifest.Get(b)
		if e != api.OK {
			continue
		}
		read++
		if again, e := manifest.Put(m); e != api.OK || !bytes.Equal(again, b) {
			t.Fatalf("%x is read as %v, which is %x, error %d", b, m, again, e)
		}
	}
	if read < 1000 {
		t.Errorf("%d are read", read)
	}
}

// TestP1Bytes reads bytes of all kinds.
func TestP1Bytes(t *testing.T) {
	x := dice(4)
	for range 20000 {
		b := make([]byte, x.roll(20))
		for i := range b {
			b[i] = byte(x.next() >> x.roll(64))
		}
		wantGet(t, "bytes", b)
		wantGet(t, "framed", frame.Put(b))
	}
}

// TestP3TakesNothing has what is passed be the same afterwards, its spare capacity too.
func TestP3TakesNothing(t *testing.T) {
	falling := of(3, 9, api.Ref{Num: 3, Dels: 8}, api.Ref{Num: 4, Dels: 7}, api.Ref{Num: 5, Dels: 6})
	for _, m := range append(goods(), falling, bads()["dels twice"]) {
		back := append(slices.Clone(m.Refs), nums(1, 2, 3)...)
		kept := slices.Clone(back)
		m.Refs = back[:len(m.Refs)]
		manifest.Check(m)
		manifest.Put(m)
		if !slices.Equal(back, kept) {
			t.Fatalf("%v became %v", kept, back)
		}
		b := append(framed(integers(m)...), "12345"...)
		was := slices.Clone(b)
		manifest.Get(b[:len(b)-5])
		if !bytes.Equal(b, was) {
			t.Fatalf("%x became %x", was, b)
		}
	}
}

// TestP3IsNew changes what was returned and what was passed: neither is to be seen elsewhere.
func TestP3IsNew(t *testing.T) {
	for _, m := range goods() {
		first, _ := manifest.Put(m)
		want := slices.Clone(first)
		spoil(first)
		if again, e := manifest.Put(m); e != api.OK || !bytes.Equal(again, want) {
			t.Fatalf("%v: %x, and later %x, error %d", m, want, again, e)
		}
		one, _ := manifest.Get(want)
		refs := one.Refs[:cap(one.Refs)]
		for i := range refs {
			refs[i] = api.Ref{Num: 99}
		}
		two, e := manifest.Get(want)
		if e != api.OK || !isSame(two, m) {
			t.Fatalf("%v, and later %v, error %d", m, two, e)
		}
		spoil(want)
		if !isSame(two, m) {
			t.Fatalf("%v became %v", m, two)
		}
	}
}

// spoil changes bytes, and those in their spare capacity.
func spoil(b []byte) {
	b = b[:cap(b)]
	for i := range b {
		b[i] = '?'
	}
}
