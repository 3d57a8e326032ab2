package dels_test

import (
	"bytes"
	"math"
	"slices"
	"testing"

	"verbatim/api"
	"verbatim/dels"
	"verbatim/frame"
	"verbatim/leb"
)

const maxInSeg = 64

// plain is the chapter's words: for each document, whether it is deleted.
type plain []bool

func (p plain) has(i int64) bool { return i >= 0 && i < int64(len(p)) && p[i] }

func (p plain) add(i int64) bool {
	if i < 0 || i >= int64(len(p)) || p[i] {
		return false
	}
	p[i] = true
	return true
}

func (p plain) live() []int64 {
	var l []int64
	for i, gone := range p {
		if !gone {
			l = append(l, int64(i))
		}
	}
	return l
}

// content is what stands in the frame.
func (p plain) content() []byte {
	b := leb.Put(uint64(len(p)))
	for from := 0; from < len(p); from += 8 {
		var eight byte
		for i, gone := range p[from:min(from+8, len(p))] {
			if gone {
				eight += []byte{1, 2, 4, 8, 16, 32, 64, 128}[i]
			}
		}
		b = append(b, eight)
	}
	return b
}

// getPlain is the chapter's words: what bytes are, and whether they are that.
func getPlain(b []byte) (plain, bool) {
	l, e := frame.All(b)
	if e != api.OK || len(l) != 1 {
		return nil, false
	}
	n, at, e := leb.Get(l[0])
	if e != api.OK || n > maxInSeg {
		return nil, false
	}
	p := plain{}
	for _, eight := range l[0][at:] {
		for range 8 {
			p = append(p, eight%2 == 1)
			eight /= 2
		}
	}
	if uint64(len(p)) < n || uint64(len(p)) >= n+8 || slices.Contains(p[n:], true) {
		return nil, false
	}
	return p[:n], true
}

// dice are numbers that look like chance and are the same each time.
type dice uint64

func (x *dice) next() uint64 {
	*x = *x*6364136223846793005 + 1442695040888963407
	return uint64(*x) ^ uint64(*x)>>29
}

func (x *dice) roll(n int) int { return int(x.next() >> 33 % uint64(n)) }

// plain is n documents, of which each is deleted or not.
func (x *dice) plain(n int) plain {
	p := plain{}
	for range n {
		p = append(p, x.roll(2) == 0)
	}
	return p
}

// of is n documents, of which some are deleted.
func of(n int, gone ...int) plain {
	p := make(plain, n)
	for _, i := range gone {
		p[i] = true
	}
	return p
}

// samples are some of each size, and some with all deleted.
func samples() []plain {
	x := dice(5)
	l := []plain{of(0), of(1), of(1, 0), of(3, 0, 2), of(8, 7), of(9, 8), of(10, 0, 9), of(64, 0, 63)}
	for n := range maxInSeg + 1 {
		all := of(n)
		for i := range all {
			all[i] = true
		}
		l = append(l, of(n), all, x.plain(n), x.plain(n))
	}
	return l
}

// strange are numbers of no document, whatever their number.
func strange() []int64 {
	return []int64{
		-1, -2, -8, -64, -65, 64, 65, 72, 128, 255, 256, 1 << 31, 1 << 32, 1<<32 + 1, 1 << 40,
		-1 << 31, -1 << 32, math.MaxInt64, math.MaxInt64 - 1, math.MinInt64, math.MinInt64 + 1, math.MinInt64 + 8,
	}
}

// added is a Dels in which all is deleted as it should be.
func added(t *testing.T, p plain) *dels.Dels {
	t.Helper()
	d := dels.New(len(p))
	if d == nil {
		t.Fatalf("New(%d) is nil", len(p))
	}
	for i, gone := range p {
		if gone && !d.Add(int64(i)) {
			t.Fatalf("of %d, %d can't be deleted", len(p), i)
		}
	}
	return d
}

// wantDels holds a Dels against what it should be, in all that it tells.
func wantDels(t *testing.T, name string, d *dels.Dels, p plain) {
	t.Helper()
	if d == nil {
		t.Fatalf("%s: nil", name)
	}
	if d.Size() != len(p) {
		t.Fatalf("%s: Size() = %d, want %d", name, d.Size(), len(p))
	}
	for i := int64(-3); i < maxInSeg+20; i++ {
		if d.Has(i) != p.has(i) {
			t.Fatalf("%s: of %v, Has(%d) = %t", name, p, i, d.Has(i))
		}
	}
	for _, i := range strange() {
		if d.Has(i) {
			t.Fatalf("%s: Has(%d)", name, i)
		}
	}
	live := p.live()
	if got := d.Live(); !slices.Equal(got, live) {
		t.Fatalf("%s: Live() = %d, want %d", name, got, live)
	}
	if got := d.Many(); got != len(p)-len(live) {
		t.Fatalf("%s: Many() = %d, want %d", name, got, len(p)-len(live))
	}
	if got, want := d.Put(), frame.Put(p.content()); !bytes.Equal(got, want) {
		t.Fatalf("%s: Put() = %x, want %x", name, got, want)
	}
}

// wantGet holds what is read against what should be.
func wantGet(t *testing.T, name string, b []byte) {
	t.Helper()
	want, is := getPlain(b)
	got, e := dels.Get(b)
	if !is {
		if got != nil || e != api.ErrCorrupt {
			t.Fatalf("%s: Get(%x) is nil %t, error %d, want nil, %d", name, b, got == nil, e, api.ErrCorrupt)
		}
		return
	}
	if e != api.OK {
		t.Fatalf("%s: Get(%x) is error %d, want none", name, b, e)
	}
	wantDels(t, name, got, want)
}

func TestP141New(t *testing.T) {
	for n := range maxInSeg + 1 {
		wantDels(t, "new", dels.New(n), of(n))
	}
	for _, n := range []int{-1, -2, -64, 65, 66, 128, 256, 1 << 32, 1<<32 + 3, math.MaxInt, math.MinInt, math.MinInt + 3} {
		if dels.New(n) != nil {
			t.Errorf("New(%d) is not nil", n)
		}
	}
}

func TestP141Known(t *testing.T) {
	for _, c := range []struct {
		p    plain
		want string
	}{
		{of(0), "\x00"},
		{of(1), "\x01\x00"},
		{of(1, 0), "\x01\x01"},
		{of(3, 0, 2), "\x03\x05"},
		{of(8, 0), "\x08\x01"},
		{of(8, 7), "\x08\x80"},
		{of(9), "\x09\x00\x00"},
		{of(9, 8), "\x09\x00\x01"},
		{of(10, 0, 9), "\x0a\x01\x02"},
		{of(16, 0, 1, 2, 3, 4, 5, 6, 7), "\x10\xff\x00"},
		{of(17, 15, 16), "\x11\x00\x80\x01"},
		{of(63, 62), "\x3f\x00\x00\x00\x00\x00\x00\x00\x40"},
		{of(64), "\x40\x00\x00\x00\x00\x00\x00\x00\x00"},
		{of(64, 1, 63), "\x40\x02\x00\x00\x00\x00\x00\x00\x80"},
	} {
		want := frame.Put([]byte(c.want))
		if got := added(t, c.p).Put(); !bytes.Equal(got, want) {
			t.Errorf("%v: Put() = %x, want %x", c.p, got, want)
		}
		d, e := dels.Get(want)
		if e != api.OK {
			t.Errorf("%v: error %d, want none", c.p, e)
			continue
		}
		wantDels(t, "known", d, c.p)
	}
}

// TestP141Each deletes one document, of each number of documents.
func TestP141Each(t *testing.T) {
	for n := range maxInSeg + 1 {
		for i := range n {
			d := dels.New(n)
			if !d.Add(int64(i)) {
				t.Fatalf("of %d, %d can't be deleted", n, i)
			}
			wantDels(t, "once", d, of(n, i))
			if d.Add(int64(i)) {
				t.Fatalf("of %d, %d can be deleted twice", n, i)
			}
			wantDels(t, "twice", d, of(n, i))
		}
	}
}

// TestP141AddNone deletes what isn't there, which changes nothing.
func TestP141AddNone(t *testing.T) {
	for n := range maxInSeg + 1 {
		d := dels.New(n)
		for i := n; i < n+20; i++ {
			if d.Add(int64(i)) {
				t.Errorf("of %d, %d can be deleted", n, i)
			}
		}
		for _, i := range strange() {
			if d.Add(i) {
				t.Errorf("of %d, %d can be deleted", n, i)
			}
		}
		wantDels(t, "none", d, of(n))
	}
}

// TestP141All deletes all sets of few documents.
func TestP141All(t *testing.T) {
	for n := range 10 {
		for set := range 1 << n {
			p := of(n)
			for i := range p {
				p[i] = set>>i&1 == 1
			}
			wantDels(t, "all", added(t, p), p)
		}
	}
}

func TestP141Samples(t *testing.T) {
	for _, p := range samples() {
		wantDels(t, "sample", added(t, p), p)
	}
}

// TestP141Chance deletes by dice. P14.3 is held after each step.
func TestP141Chance(t *testing.T) {
	x := dice(1)
	for range 200 {
		n := x.roll(maxInSeg + 1)
		d, p := dels.New(n), of(n)
		for range x.roll(80) {
			i := int64(x.roll(n+4) - 2)
			if got, want := d.Add(i), p.add(i); got != want {
				t.Fatalf("of %v, Add(%d) = %t", p, i, got)
			}
			wantDels(t, "chance", d, p)
		}
	}
}

func TestP141GetWrong(t *testing.T) {
	good := frame.Put([]byte("\x0a\x01\x02"))
	for name, b := range map[string][]byte{
		"nil":                     nil,
		"no bytes":                {},
		"a byte":                  {0},
		"no frame":                []byte("\x0a\x01\x02"),
		"a byte behind":           append(slices.Clone(good), 0),
		"a frame behind":          append(slices.Clone(good), good...),
		"an empty frame behind":   append(slices.Clone(good), frame.Put(nil)...),
		"an empty frame ahead":    append(frame.Put(nil), good...),
		"a byte ahead":            append([]byte{0}, good...),
		"a frame in a frame":      frame.Put(good),
		"an empty frame":          frame.Put(nil),
		"a number without end":    frame.Put([]byte("\x80")),
		"a long number":           frame.Put([]byte("\x83\x00\x05")),
		"a long 0":                frame.Put([]byte("\x80\x00")),
		"too many by one":         frame.Put([]byte("\x41\x00\x00\x00\x00\x00\x00\x00\x00\x00")),
		"too many by one, 8":      frame.Put([]byte("\x41\x00\x00\x00\x00\x00\x00\x00\x00")),
		"too many, without bits":  frame.Put([]byte("\x41")),
		"too many by 8":           frame.Put([]byte("\x48\x00\x00\x00\x00\x00\x00\x00\x00\x00")),
		"the greatest number":     frame.Put(leb.Put(math.MaxUint64)),
		"a negative int":          frame.Put(append(leb.Put(1<<63), 0)),
		"above 32 bits":           frame.Put(append(leb.Put(1<<32+1), 0)),
		"above a byte":            frame.Put(append(leb.Put(1<<8+1), 0)),
		"no bits":                 frame.Put([]byte("\x01")),
		"a byte short":            frame.Put([]byte("\x0a\x01")),
		"a byte short of 64":      frame.Put([]byte("\x40\x00\x00\x00\x00\x00\x00\x00")),
		"a byte more":             frame.Put([]byte("\x0a\x01\x02\x00")),
		"a byte more of 0":        frame.Put([]byte("\x00\x00")),
		"a byte more of 8":        frame.Put([]byte("\x08\x00\x00")),
		"a byte more of 64":       frame.Put([]byte("\x40\x00\x00\x00\x00\x00\x00\x00\x00\x00")),
		"a bit after the last":    frame.Put([]byte("\x0a\x01\x06")),
		"the last bit of a byte":  frame.Put([]byte("\x0a\x01\x82")),
		"a bit after one":         frame.Put([]byte("\x01\x02")),
		"a bit after 63":          frame.Put([]byte("\x3f\x00\x00\x00\x00\x00\x00\x00\x80")),
		"all bits":                frame.Put([]byte("\x09\xff\xff")),
		"more than a frame may":   frame.Put(make([]byte, 1<<18+1)),
		"as much as a frame may":  frame.Put(make([]byte, 1<<18)),
		"a bit that another lets": frame.Put([]byte("\x02\x06")),
	} {
		if d, e := dels.Get(b); d != nil || e != api.ErrCorrupt {
			t.Errorf("%s: nil %t, error %d, want nil, %d", name, d == nil, e, api.ErrCorrupt)
		}
		wantGet(t, name, b)
	}
}

// TestP141GetShort reads frames of all contents of two bytes, and less.
func TestP141GetShort(t *testing.T) {
	wantGet(t, "none", frame.Put(nil))
	for a := range 256 {
		wantGet(t, "one", frame.Put([]byte{byte(a)}))
		for b := range 256 {
			wantGet(t, "two", frame.Put([]byte{byte(a), byte(b)}))
		}
	}
}

// TestP141GetEach reads, of each number of documents, each number of bytes with each bit.
func TestP141GetEach(t *testing.T) {
	for n := range maxInSeg + 10 {
		for long := range 11 {
			b := append([]byte{byte(n)}, make([]byte, long)...)
			wantGet(t, "without a bit", frame.Put(b))
			for i := range 8 * long {
				b[1+i/8] = 1 << (i % 8)
				wantGet(t, "with a bit", frame.Put(b))
				b[1+i/8] = 0
			}
		}
	}
}

// TestP142 reads what is written, and writes what is read.
func TestP142(t *testing.T) {
	for _, p := range samples() {
		b := added(t, p).Put()
		d, e := dels.Get(b)
		if e != api.OK {
			t.Fatalf("%v: error %d, want none", p, e)
		}
		wantDels(t, "read", d, p)
		if again := d.Put(); !bytes.Equal(again, b) {
			t.Fatalf("%v: %x, and %x when it is read", p, b, again)
		}
	}
}

// TestP142OneWay has different deletions have different bytes.
func TestP142OneWay(t *testing.T) {
	seen := map[string]plain{}
	for n := range 9 {
		for set := range 1 << n {
			p := of(n)
			for i := range p {
				p[i] = set>>i&1 == 1
			}
			b := string(added(t, p).Put())
			if other, is := seen[b]; is {
				t.Fatalf("%v and %v are both %x", p, other, b)
			}
			seen[b] = p
		}
	}
}

// TestP142GoesOn deletes more of what was read.
func TestP142GoesOn(t *testing.T) {
	x := dice(3)
	for _, p := range samples() {
		d, e := dels.Get(added(t, p).Put())
		if e != api.OK {
			t.Fatal(e)
		}
		p = slices.Clone(p)
		for range 10 {
			i := int64(x.roll(len(p)+2) - 1)
			if got, want := d.Add(i), p.add(i); got != want {
				t.Fatalf("of %v, Add(%d) = %t", p, i, got)
			}
		}
		wantDels(t, "goes on", d, p)
	}
}

func TestP141Truncated(t *testing.T) {
	for _, p := range samples() {
		b := added(t, p).Put()
		for n := range b {
			if d, e := dels.Get(b[:n]); d != nil || e != api.ErrCorrupt {
				t.Fatalf("%v: of %x, %d bytes are some", p, b, n)
			}
		}
	}
}

// TestP141Changed changes each byte to each other one.
func TestP141Changed(t *testing.T) {
	for _, p := range []plain{of(0), of(3, 0, 2), of(10, 0, 9), of(64, 0, 63)} {
		b := added(t, p).Put()
		for i, old := range b {
			for by := 1; by < 256; by++ {
				b[i] = old ^ byte(by)
				wantGet(t, "changed", b)
			}
			b[i] = old
		}
	}
}

// TestP143 deletes all documents, in many orders: none comes back, and each is counted once.
func TestP143(t *testing.T) {
	x := dice(9)
	for n := range maxInSeg + 1 {
		order := make([]int64, n)
		for i := range order {
			at := x.roll(i + 1)
			order[i] = order[at]
			order[at] = int64(i)
		}
		d := dels.New(n)
		for many, i := range order {
			if !d.Add(i) {
				t.Fatalf("of %d, %d can't be deleted", n, i)
			}
			for _, gone := range order[:many+1] {
				if !d.Has(gone) || d.Add(gone) || slices.Contains(d.Live(), gone) {
					t.Fatalf("of %d, %d came back after %d", n, gone, i)
				}
			}
			if d.Many() != many+1 || d.Many()+len(d.Live()) != n {
				t.Fatalf("of %d: Many() = %d after %d, with %d live ones", n, d.Many(), many+1, len(d.Live()))
			}
		}
		if len(d.Live()) > 0 {
			t.Fatalf("of %d, %d are left", n, d.Live())
		}
	}
}

// TestP3Order has the order not matter.
func TestP3Order(t *testing.T) {
	p := of(20, 1, 7, 8, 19)
	for _, order := range [][]int64{{1, 7, 8, 19}, {19, 8, 7, 1}, {8, 8, 1, 20, 19, 7, -1, 1}} {
		d := dels.New(20)
		for _, i := range order {
			d.Add(i)
		}
		wantDels(t, "order", d, p)
	}
}

func TestP3TakesNothing(t *testing.T) {
	b := added(t, of(10, 0, 9)).Put()
	for _, n := range []int{len(b), len(b) - 1, 3} {
		room := append(slices.Clone(b), "behind it"...)
		dels.Get(room[:n])
		if want := append(slices.Clone(b), "behind it"...); !bytes.Equal(room, want) {
			t.Errorf("the bytes are %x behind the call, want %x", room, want)
		}
	}
}

func TestP3KeepsNothing(t *testing.T) {
	b := added(t, of(10, 0, 9)).Put()
	d, e := dels.Get(b)
	if e != api.OK {
		t.Fatal(e)
	}
	for i := range b {
		b[i] = 0xff
	}
	wantDels(t, "keeps", d, of(10, 0, 9))
	old := frame.Put([]byte("\x0a\x01\x02"))
	if d, _ = dels.Get(old); !d.Add(5) {
		t.Error("5 can't be deleted")
	}
	if !bytes.Equal(old, frame.Put([]byte("\x0a\x01\x02"))) {
		t.Errorf("the bytes are %x when more is deleted", old)
	}
}

func TestP3IsNew(t *testing.T) {
	p := of(64, 0, 9, 63)
	d := added(t, p)
	b := d.Put()
	b = b[:cap(b)]
	live := d.Live()
	live = live[:cap(live)]
	for range 2 {
		for i := range b {
			b[i] ^= 0xff
		}
		clear(live)
		wantDels(t, "new", d, p)
	}
	b = d.Put()
	d.Add(5)
	if !bytes.Equal(b, frame.Put(p.content())) {
		t.Errorf("the bytes are %x when more is deleted", b)
	}
}

// TestP3Apart has two of the same bytes, and two of one number, neither of which knows of the other.
func TestP3Apart(t *testing.T) {
	b := added(t, of(10, 0, 9)).Put()
	one, _ := dels.Get(b)
	other, _ := dels.Get(b)
	one.Add(3)
	wantDels(t, "one", one, of(10, 0, 3, 9))
	wantDels(t, "other", other, of(10, 0, 9))
	one, other = dels.New(10), dels.New(10)
	one.Add(3)
	wantDels(t, "new one", one, of(10, 3))
	wantDels(t, "new other", other, of(10))
}

// TestP1Bytes reads bytes of all kinds.
func TestP1Bytes(t *testing.T) {
	x := dice(11)
	for range 20000 {
		b := make([]byte, x.roll(14))
		for i := range b {
			b[i] = byte(x.roll(3) * x.roll(256))
		}
		wantGet(t, "bytes", b)
		wantGet(t, "framed", frame.Put(b))
	}
}
