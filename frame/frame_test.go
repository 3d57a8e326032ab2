package frame_test

import (
	"bytes"
	"hash/crc32"
	"math"
	"slices"
	"testing"

	"verbatim/api"
	"verbatim/frame"
	"verbatim/leb"
)

// framed is the chapter's words: the length, the library's checksum with its least significant byte first, the byte string.
func framed(b []byte) []byte {
	f := leb.Put(uint64(len(b)))
	sum := crc32.ChecksumIEEE(b)
	for range 4 {
		f = append(f, byte(sum%256))
		sum /= 256
	}
	return append(f, b...)
}

// read is the chapter's words: what stands there is a frame only if it is what framed makes of its content.
func read(b []byte) ([]byte, int, api.Errno) {
	long, at, e := leb.Get(b)
	if e != api.OK {
		return nil, 0, e
	}
	if long > 1<<18 {
		return nil, 0, api.ErrLong
	}
	if uint64(len(b)) < uint64(at)+4+long {
		return nil, 0, api.ErrEnd
	}
	content := b[at+4:][:long]
	if !bytes.HasPrefix(b, framed(content)) {
		return nil, 0, api.ErrSum
	}
	return content, at + 4 + len(content), api.OK
}

// readAll is the contents of the frames that b begins with, their number of bytes, and what is wrong behind them.
func readAll(b []byte) ([][]byte, int, api.Errno) {
	var l [][]byte
	sum := 0
	for len(b) > 0 {
		content, n, e := read(b)
		if e != api.OK {
			return l, sum, e
		}
		l = append(l, content)
		sum += n
		b = b[n:]
	}
	return l, sum, api.OK
}

// dice are numbers that look like chance and are the same each time.
type dice uint64

func (x *dice) next() uint64 {
	*x = *x*6364136223846793005 + 1442695040888963407
	return uint64(*x) ^ uint64(*x)>>29
}

func (x *dice) roll(n int) int { return int(x.next() >> 33 % uint64(n)) }

func (x *dice) bytes(n int) []byte {
	b := make([]byte, n)
	for i := range b {
		b[i] = byte(x.roll(256))
	}
	return b
}

// contents are byte strings of each kind, and of the lengths at which the length's bytes become more.
func contents() [][]byte {
	x := dice(1)
	l := [][]byte{nil, {}, {0}, {255}, []byte("a"), []byte("123456789"), make([]byte, 5), bytes.Repeat([]byte{255}, 9), framed(nil), framed([]byte("a"))}
	for _, n := range []int{2, 3, 4, 126, 127, 128, 129, 300, 16383, 16384, 16385} {
		l = append(l, x.bytes(n))
	}
	return l
}

// lengths are those that no frame may have.
func lengths() []uint64 {
	return []uint64{1<<18 + 1, 1<<18 + 2, 1 << 19, 1<<31 - 1, 1 << 31, 1<<32 - 1, 1 << 32, 1<<32 + 1, 1<<63 - 5, 1<<63 - 1, 1 << 63, 1<<63 + 1, math.MaxUint64 - 4, math.MaxUint64}
}

// broken are byte strings that are no frame, and do not begin with one, with what is wrong.
func broken() map[string]api.Errno {
	m := map[string]api.Errno{
		"\x01":                          api.ErrEnd,
		"\x01\x43\xbe\xb7\xe8":          api.ErrEnd,
		"\x00\x00\x00\x00":              api.ErrEnd,
		"\x80":                          api.ErrEnd,
		"\x80\x80\x10":                  api.ErrEnd,
		"\x80\x00":                      api.ErrLong,
		"\x80\x00\x00\x00\x00\x00":      api.ErrLong,
		"\x81\x00\x43\xbe\xb7\xe8a":     api.ErrLong,
		"\x81\x80\x10":                  api.ErrLong,
		"\x00\x00\x00\x00\x01":          api.ErrSum,
		"\x01\x44\xbe\xb7\xe8a":         api.ErrSum,
		"\x01\x43\xbe\xb7\xe9a":         api.ErrSum,
		"\x01\x43\xbe\xb7\xe8b":         api.ErrSum,
		"\x01\xe8\xb7\xbe\x43a":         api.ErrSum, // the other way round
		"\x09\xcb\xf4\x39\x26123456789": api.ErrSum,
	}
	for _, n := range lengths() {
		m[string(leb.Put(n))] = api.ErrLong
	}
	return m
}

func wantBytes(t *testing.T, what string, got, want []byte) {
	t.Helper()
	if !bytes.Equal(got, want) {
		t.Errorf("%s: %s, want %s", what, short(got), short(want))
	}
}

// short is bytes as a failure tells them: the first ones.
func short(b []byte) []byte { return b[:min(len(b), 40)] }

func wantGet(t *testing.T, b, content []byte, n int, want api.Errno) {
	t.Helper()
	got, k, e := frame.Get(b)
	if !bytes.Equal(got, content) || k != n || e != want {
		t.Errorf("% x: % x of %d bytes, error %d, want % x of %d bytes, error %d", short(b), short(got), k, e, short(content), n, want)
	}
}

func same(a, b [][]byte) bool { return slices.EqualFunc(a, b, bytes.Equal) }

func wantAll(t *testing.T, b []byte, l [][]byte, want api.Errno) {
	t.Helper()
	got, e := frame.All(b)
	if !same(got, l) || e != want || e != api.OK && got != nil {
		t.Errorf("all of % x: %d contents, error %d, want %d, error %d", short(b), len(got), e, len(l), want)
	}
}

func wantWhole(t *testing.T, b []byte, l [][]byte, n int) {
	t.Helper()
	got, k := frame.Whole(b)
	if !same(got, l) || k != n {
		t.Errorf("whole of % x: %d contents of %d bytes, want %d of %d bytes", short(b), len(got), k, len(l), n)
	}
}

// wantRef holds all three against the chapter's words.
func wantRef(t *testing.T, b []byte) {
	t.Helper()
	content, n, e := read(b)
	wantGet(t, b, content, n, e)
	l, n, e := readAll(b)
	wantWhole(t, b, l, n)
	if e != api.OK {
		l = nil
	}
	wantAll(t, b, l, e)
}

// spoil overwrites a list with its spare capacity.
func spoil(b []byte) {
	b = b[:cap(b)]
	for i := range b {
		b[i] ^= 0x55
	}
}

func TestP41PutKnown(t *testing.T) {
	for _, x := range []struct{ b, want string }{
		{"", "\x00\x00\x00\x00\x00"},
		{"a", "\x01\x43\xbe\xb7\xe8a"},
		{"\x00", "\x01\x8d\xef\x02\xd2\x00"},
		{"\xff", "\x01\x00\x00\x00\xff\xff"},
		{"abc", "\x03\xc2\x41\x24\x35abc"},
		{"123456789", "\x09\x26\x39\xf4\xcb123456789"},
	} {
		wantBytes(t, "put", frame.Put([]byte(x.b)), []byte(x.want))
	}
	wantBytes(t, "put of nil", frame.Put(nil), make([]byte, 5))
}

func TestP41PutAll(t *testing.T) {
	x := dice(2)
	for _, b := range contents() {
		wantBytes(t, "put", frame.Put(b), framed(b))
	}
	for n := range 600 {
		b := x.bytes(n)
		wantBytes(t, "put", frame.Put(b), framed(b))
	}
}

func TestP41GetKnown(t *testing.T) {
	for _, x := range []struct {
		b, content string
		n          int
	}{
		{"\x00\x00\x00\x00\x00", "", 5},
		{"\x00\x00\x00\x00\x00\x00", "", 5},
		{"\x01\x43\xbe\xb7\xe8a", "a", 6},
		{"\x01\x43\xbe\xb7\xe8ab", "a", 6},
		{"\x09\x26\x39\xf4\xcb123456789\x80", "123456789", 14},
	} {
		wantGet(t, []byte(x.b), []byte(x.content), x.n, api.OK)
	}
	wantGet(t, nil, nil, 0, api.ErrEnd)
	wantGet(t, []byte{}, nil, 0, api.ErrEnd)
	for b, e := range broken() {
		wantGet(t, []byte(b), nil, 0, e)
		wantRef(t, []byte(b))
	}
}

// TestP41GetFirstError: of several errors the one that the chapter names first.
func TestP41GetFirstError(t *testing.T) {
	for _, x := range []struct {
		b    string
		want api.Errno
	}{
		{"\x81\x80\x10\x00\x00", api.ErrLong},     // too long a content, and too few bytes for it
		{"\x81\x80\x90\x00\x00", api.ErrLong},     // a length that is written too long, and too great
		{"\x81\x80\x90", api.ErrEnd},              // a length that ends too early, and would be too great
		{"\x02\x00\x00\x00\x00a", api.ErrEnd},     // too few bytes, and no checksum of what is there
		{"\x00\x01\x02\x03", api.ErrEnd},          // too few bytes of a wrong checksum
		{"\x02\x43\xbe\xb7\xe8a", api.ErrEnd},     // too few bytes, and the checksum of what is there
		{"\x80\x00\x43\xbe\xb7\xe8", api.ErrLong}, // a length that is written too long, and a wrong checksum
	} {
		wantGet(t, []byte(x.b), nil, 0, x.want)
	}
}

// TestP41GetLengths: no length above the bound is read, whatever stands behind it, and however an int would hold it.
func TestP41GetLengths(t *testing.T) {
	room := make([]byte, 1<<18+100)
	for _, n := range lengths() {
		for _, behind := range []int{0, 1, 3, 4, 5, 100, len(room)} {
			b := append(leb.Put(n), room[:behind]...)
			wantGet(t, b, nil, 0, api.ErrLong)
			wantAll(t, b, nil, api.ErrLong)
			wantWhole(t, b, nil, 0)
		}
	}
	for _, n := range []uint64{1, 2, 127, 128, 1<<18 - 1, 1 << 18} {
		b := append(leb.Put(n), room[:n+3]...)
		wantGet(t, b, nil, 0, api.ErrEnd)
		wantGet(t, append(b, 1), nil, 0, api.ErrSum)
	}
}

// TestP41Greatest: a content of MaxFile bytes has a frame that is read; one that is longer has a frame, but is not read.
func TestP41Greatest(t *testing.T) {
	x := dice(3)
	b := x.bytes(1<<18 + 1)
	for _, n := range []int{1<<18 - 1, 1 << 18} {
		f := framed(b[:n])
		wantBytes(t, "put", frame.Put(b[:n]), f)
		wantGet(t, f, b[:n], n+7, api.OK)
		wantGet(t, f[:len(f)-1], nil, 0, api.ErrEnd)
		wantAll(t, append(f, f...), [][]byte{b[:n], b[:n]}, api.OK)
		wantWhole(t, append(f, 1), [][]byte{b[:n]}, len(f))
	}
	f := framed(b)
	wantBytes(t, "put", frame.Put(b), f)
	wantGet(t, f, nil, 0, api.ErrLong)
	wantAll(t, f, nil, api.ErrLong)
	wantWhole(t, append(framed(nil), f...), [][]byte{nil}, 5)
}

func TestP41AllKnown(t *testing.T) {
	wantAll(t, nil, nil, api.OK)
	wantAll(t, []byte{}, nil, api.OK)
	wantWhole(t, nil, nil, 0)
	wantWhole(t, []byte{}, nil, 0)
	a, none := "\x01\x43\xbe\xb7\xe8a", "\x00\x00\x00\x00\x00"
	for _, x := range []struct {
		b string
		l [][]byte
	}{
		{none, [][]byte{nil}},
		{none + none + none, [][]byte{nil, nil, nil}},
		{a, [][]byte{{'a'}}},
		{a + none, [][]byte{{'a'}, nil}},
		{none + a, [][]byte{nil, {'a'}}},
		{a + a + none + a, [][]byte{{'a'}, {'a'}, nil, {'a'}}},
	} {
		wantAll(t, []byte(x.b), x.l, api.OK)
		wantWhole(t, []byte(x.b), x.l, len(x.b))
	}
}

// TestP41AllBroken has each thing that is no frame stand at each place, with frames and with other such things behind it.
func TestP41AllBroken(t *testing.T) {
	for bad, e := range broken() {
		ahead, l := []byte{}, [][]byte{}
		for _, content := range append([][]byte{nil, {7}, nil}, contents()[:9]...) {
			b := append(slices.Clone(ahead), bad...)
			wantAll(t, b, nil, e)
			wantWhole(t, b, l, len(ahead))
			ahead, l = append(ahead, framed(content)...), append(l, content)
		}
		for other := range broken() {
			wantRef(t, append(append(framed([]byte("a")), bad...), other...))
			wantRef(t, append(append([]byte(bad), framed([]byte("a"))...), other...))
		}
	}
}

// TestP41Chance plays with frames that are as they should be but for some bytes, which are changed, cut off, put in or taken out.
func TestP41Chance(t *testing.T) {
	x := dice(4)
	for range 30000 {
		var b []byte
		for range x.roll(5) {
			b = append(b, framed(x.bytes(x.roll(3)*x.roll(9)))...)
		}
		for range x.roll(3) {
			i := x.roll(len(b) + 1)
			switch x.roll(4) {
			case 0:
				b = b[:i]
			case 1:
				b = slices.Insert(b, i, byte(x.roll(3)*x.roll(256)))
			case 2:
				b = slices.Delete(b, i, min(i+1, len(b)))
			case 3:
				copy(b[i:], x.bytes(1))
			}
		}
		wantRef(t, b)
	}
}

// TestP41EachStart has each pair of bytes begin what is read.
func TestP41EachStart(t *testing.T) {
	for i := range 1 << 16 {
		wantRef(t, []byte{byte(i), byte(i >> 8), 0, 0, 0, 0, 0})
	}
}

func TestP42ReadBack(t *testing.T) {
	for _, b := range contents() {
		f := frame.Put(b)
		for _, tail := range []string{"", "\x00", "\x80", "\xff\xff\xff\xff\xff", "\x00\x00\x00\x00\x00", "\x01\x43\xbe\xb7\xe8a"} {
			wantGet(t, append(slices.Clone(f), tail...), b, len(f), api.OK)
		}
	}
}

func TestP42AllReadBack(t *testing.T) {
	var b []byte
	var l [][]byte
	for _, content := range append(contents(), contents()...) {
		b, l = append(b, frame.Put(content)...), append(l, content)
		wantAll(t, b, l, api.OK)
		wantWhole(t, b, l, len(b))
		wantWhole(t, append(slices.Clone(b), 0, 0, 0, 0), l, len(b))
	}
}

// TestP42OneFrame: what is read is, byte for byte, what Put would have written.
func TestP42OneFrame(t *testing.T) {
	x := dice(5)
	read := 0
	for range 200000 {
		b := x.bytes(x.roll(9))
		if len(b) > 0 {
			b[0] = byte(x.roll(4))
		}
		for i := 1; i < min(len(b), 5); i++ {
			b[i] *= byte(x.roll(2)) // or no checksum would ever be right
		}
		if content, n, e := frame.Get(b); e == api.OK {
			wantBytes(t, "the only frame", frame.Put(content), b[:n])
			read++
		}
	}
	if read == 0 {
		t.Error("nothing was read")
	}
}

func TestP43Truncated(t *testing.T) {
	for _, b := range contents() {
		f := framed(b)
		for i := range f {
			if i > 600 && i < len(f)-600 { // the middle of a long one is like its ends
				continue
			}
			wantGet(t, f[:i], nil, 0, api.ErrEnd)
			wantWhole(t, f[:i], nil, 0)
			if i > 0 {
				wantAll(t, f[:i], nil, api.ErrEnd)
			}
			wantWhole(t, append(framed([]byte("x")), f[:i]...), [][]byte{{'x'}}, 6)
		}
	}
}

func TestP43Changed(t *testing.T) {
	for _, b := range contents() {
		if len(b) > 300 {
			continue
		}
		f := framed(b)
		for i := len(leb.Put(uint64(len(b)))); i < len(f); i++ {
			for by := 1; by < 256; by++ {
				f[i] ^= byte(by)
				wantGet(t, f, nil, 0, api.ErrSum)
				f[i] ^= byte(by)
			}
			f[i]++
			wantAll(t, f, nil, api.ErrSum)
			wantWhole(t, f, nil, 0)
			f[i]--
		}
	}
}

// TestP3TakesNothing: what is passed is as it was, with what lies behind it, which is no part of it.
func TestP3TakesNothing(t *testing.T) {
	f := framed([]byte("abc"))
	room := append(append([]byte{9}, f...), framed([]byte("d"))...)
	old := slices.Clone(room)
	frame.Put(room[1:4])
	wantGet(t, room[1:1+len(f)], []byte("abc"), len(f), api.OK)
	wantGet(t, room[1:len(f)], nil, 0, api.ErrEnd)
	wantAll(t, room[1:1+len(f)], [][]byte{[]byte("abc")}, api.OK)
	wantAll(t, room[1:len(f)], nil, api.ErrEnd)
	wantWhole(t, room[1:2+len(f)], [][]byte{[]byte("abc")}, len(f))
	wantWhole(t, room[1:1], nil, 0)
	wantBytes(t, "what was passed", room, old)
}

// TestP3IsNew: nothing that is returned shares memory with what was passed, with another result, or with another call's.
func TestP3IsNew(t *testing.T) {
	in := []byte("abc")
	f := frame.Put(in)
	other := frame.Put(in)
	spoil(f)
	wantBytes(t, "what was put", in, []byte("abc"))
	wantBytes(t, "another frame", other, framed(in))
	b := append(framed(in), framed([]byte("defgh"))...)
	old := slices.Clone(b)
	content, _, _ := frame.Get(b)
	spoil(content)
	wantBytes(t, "what was read", b, old)
	for first := range 2 {
		l, _ := frame.All(b)
		m, _ := frame.Whole(b)
		for _, x := range [][][]byte{l, m} {
			spoil(x[first])
			wantBytes(t, "what was read", b, old)
			wantBytes(t, "the content beside it", x[1-first], [][]byte{in, []byte("defgh")}[1-first])
		}
	}
	l, _ := frame.All(b)
	m, _ := frame.Whole(b)
	k, _ := frame.All(b)
	clear(k[:cap(k)])
	spoil(b)
	for _, x := range [][][]byte{l, m} {
		if !same(x, [][]byte{in, []byte("defgh")}) {
			t.Errorf("contents are those of the changed bytes: %q", x)
		}
	}
}

// TestP1Long ends soon, however long the bytes are.
func TestP1Long(t *testing.T) {
	for _, c := range []byte{0, 1, 0x7f, 0x80, 0xff} {
		b := bytes.Repeat([]byte{c}, 1<<20)
		wantRef(t, b)
		wantRef(t, b[:1<<20-1])
	}
}
