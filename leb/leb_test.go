package leb_test

import (
	"bytes"
	"math"
	"math/big"
	"slices"
	"testing"

	"verbatim/api"
	"verbatim/leb"
)

// written is the chapter's words: a byte more is begun only where something is left for it.
func written(n uint64) []byte {
	b := []byte{byte(n % 128)}
	for n /= 128; n > 0; n /= 128 {
		b[len(b)-1] += 128
		b = append(b, byte(n%128))
	}
	return b
}

// read is the chapter's words, with an integer of any size: what would not fit must never be added.
func read(b []byte) (uint64, int, api.Errno) {
	sum, weight := new(big.Int), big.NewInt(1)
	for i, c := range b {
		last := c < 128
		if i == 9 && c > 1 {
			return 0, 0, api.ErrLong
		}
		if last && i != 0 && c == 0 {
			return 0, 0, api.ErrLong
		}
		sum.Add(sum, new(big.Int).Mul(weight, big.NewInt(int64(c%128))))
		weight.Mul(weight, big.NewInt(128))
		if last {
			return sum.Uint64(), i + 1, api.OK
		}
	}
	return 0, 0, api.ErrEnd
}

// dice are numbers that look like chance and are the same each time.
type dice uint64

func (x *dice) next() uint64 {
	*x = *x*6364136223846793005 + 1442695040888963407
	return uint64(*x) ^ uint64(*x)>>29
}

func (x *dice) roll(n int) int { return int(x.next() >> 33 % uint64(n)) }

// wide is an integer of any width, each equally often.
func (x *dice) wide() uint64 { return x.next() >> x.roll(64) }

// numbers are those at which something changes, and some of each width.
func numbers() []uint64 {
	l := []uint64{0, 1, 2, 300, 16383, 16384, math.MaxInt64, math.MaxUint64 - 1, math.MaxUint64}
	for bit := range 64 {
		l = append(l, 1<<bit-1, 1<<bit, 1<<bit+1, 1<<bit|1<<bit>>3)
	}
	x := dice(1)
	for range 2000 {
		l = append(l, x.wide())
	}
	return l
}

// samples are byte strings of all kinds of endings, behind beginnings of each length.
func samples() [][]byte {
	odd := []byte{0, 1, 2, 0x3f, 0x7e, 0x7f, 0x80, 0x81, 0x82, 0xfe, 0xff}
	ends := [][]byte{{}}
	for from, n := 0, 0; n < 3; n++ {
		to := len(ends)
		for _, b := range ends[from:to] {
			for _, c := range odd {
				ends = append(ends, append(slices.Clone(b), c))
			}
		}
		from = to
	}
	l := slices.Clone(ends)
	for _, c := range []byte{0x80, 0x81, 0xaa, 0xff} {
		for n := 1; n <= 12; n++ {
			for _, b := range ends {
				l = append(l, append(bytes.Repeat([]byte{c}, n), b...))
			}
		}
	}
	return l
}

func wantBytes(t *testing.T, what string, got, want []byte) {
	t.Helper()
	if !bytes.Equal(got, want) {
		t.Errorf("%s: % x, want % x", what, got, want)
	}
}

func wantGet(t *testing.T, b []byte, n uint64, many int, want api.Errno) {
	t.Helper()
	if x, k, e := leb.Get(b); x != n || k != many || e != want {
		t.Errorf("% x: %d of %d bytes, error %d, want %d of %d bytes, error %d", b, x, k, e, n, many, want)
	}
}

// spoil overwrites a list with its spare capacity.
func spoil(b []byte) {
	b = b[:cap(b)]
	for i := range b {
		b[i] ^= 0x55
	}
}

func TestP31PutKnown(t *testing.T) {
	for _, x := range []struct {
		n    uint64
		want string
	}{
		{0, "\x00"}, {1, "\x01"}, {127, "\x7f"}, {128, "\x80\x01"}, {129, "\x81\x01"}, {300, "\xac\x02"},
		{16383, "\xff\x7f"}, {16384, "\x80\x80\x01"},
		{1<<63 - 1, "\xff\xff\xff\xff\xff\xff\xff\xff\x7f"},
		{1 << 63, "\x80\x80\x80\x80\x80\x80\x80\x80\x80\x01"},
		{math.MaxUint64, "\xff\xff\xff\xff\xff\xff\xff\xff\xff\x01"},
	} {
		wantBytes(t, "put", leb.Put(x.n), []byte(x.want))
	}
}

func TestP31PutAll(t *testing.T) {
	for n := range uint64(1 << 16) {
		wantBytes(t, "put", leb.Put(n), written(n))
	}
	for _, n := range numbers() {
		wantBytes(t, "put", leb.Put(n), written(n))
	}
}

func TestP31GetKnown(t *testing.T) {
	nine := "\xff\xff\xff\xff\xff\xff\xff\xff\xff"
	for _, x := range []struct {
		b    string
		n    uint64
		many int
		want api.Errno
	}{
		{"", 0, 0, api.ErrEnd},
		{"\x00", 0, 1, api.OK},
		{"\x00\x00", 0, 1, api.OK},
		{"\x7f\x80", 127, 1, api.OK},
		{"\x80", 0, 0, api.ErrEnd},
		{"\x80\x00", 0, 0, api.ErrLong},
		{"\x80\x01", 128, 2, api.OK},
		{"\xac\x02\xff", 300, 2, api.OK},
		{"\xff\x00", 0, 0, api.ErrLong},
		{"\xff\x80\x00", 0, 0, api.ErrLong},
		{"\x80\x80\x80", 0, 0, api.ErrEnd},
		{nine, 0, 0, api.ErrEnd},
		{nine + "\x00", 0, 0, api.ErrLong},
		{nine + "\x01", math.MaxUint64, 10, api.OK},
		{nine + "\x01\x00", math.MaxUint64, 10, api.OK},
		{nine + "\x02", 0, 0, api.ErrLong},
		{nine + "\x7f", 0, 0, api.ErrLong},
		{nine + "\x80", 0, 0, api.ErrLong},
		{nine + "\x81", 0, 0, api.ErrLong},
		{nine + "\x80\x01", 0, 0, api.ErrLong},
		{"\x80\x80\x80\x80\x80\x80\x80\x80\x80\x01", 1 << 63, 10, api.OK},
		{"\x80\x80\x80\x80\x80\x80\x80\x80\x00", 0, 0, api.ErrLong},
	} {
		wantGet(t, []byte(x.b), x.n, x.many, x.want)
	}
	wantGet(t, nil, 0, 0, api.ErrEnd)
}

func TestP31GetAll(t *testing.T) {
	for i := range 1 << 16 {
		for _, b := range [][]byte{{byte(i)}, {byte(i), byte(i >> 8)}} {
			n, many, e := read(b)
			wantGet(t, b, n, many, e)
		}
	}
	for _, b := range samples() {
		n, many, e := read(b)
		wantGet(t, b, n, many, e)
	}
}

func TestP32ReadBack(t *testing.T) {
	for _, n := range numbers() {
		b := leb.Put(n)
		for _, tail := range []string{"", "\x00", "\x01", "\x80", "\xff\xff", "\x00\x00\x00"} {
			wantGet(t, append(slices.Clone(b), tail...), n, len(b), api.OK)
		}
		for i := range b {
			wantGet(t, b[:i], 0, 0, api.ErrEnd)
		}
	}
}

// TestP32OneEncoding: what is read is, byte for byte, what Put would have written.
func TestP32OneEncoding(t *testing.T) {
	for _, b := range samples() {
		if n, many, e := leb.Get(b); e == api.OK {
			wantBytes(t, "the only encoding", leb.Put(n), b[:many])
		}
	}
	for i := range 1 << 16 {
		b := []byte{byte(i), byte(i >> 8)}
		if n, many, e := leb.Get(b); e == api.OK {
			wantBytes(t, "the only encoding", leb.Put(n), b[:many])
		}
	}
}

// TestP32Padded: no integer is read from its bytes with zeros behind them.
func TestP32Padded(t *testing.T) {
	for _, n := range numbers() {
		b := leb.Put(n)
		for range 10 {
			b[len(b)-1] |= 0x80
			b = append(b, 0)
			wantGet(t, b, 0, 0, api.ErrLong)
		}
	}
}

func TestP3PutIsNew(t *testing.T) {
	for _, n := range []uint64{0, 5, 300, math.MaxUint64} {
		a, b := leb.Put(n), leb.Put(n)
		spoil(a)
		wantBytes(t, "another call's bytes were changed", b, written(n))
		wantBytes(t, "earlier bytes were changed", leb.Put(n), written(n))
	}
}

func TestP3GetTakesNothing(t *testing.T) {
	back := []byte{9, 0xac, 2, 7, 0x80, 0, 9}
	old := slices.Clone(back)
	wantGet(t, back[1:3], 300, 2, api.OK)
	wantGet(t, back[1:2], 0, 0, api.ErrEnd) // what lies behind is no part of it
	wantGet(t, back[4:6], 0, 0, api.ErrLong)
	wantBytes(t, "what was passed", back, old)
}

// TestP1GetLong ends soon, however long the bytes are.
func TestP1GetLong(t *testing.T) {
	for _, c := range []byte{0, 1, 0x7f, 0x80, 0xff} {
		b := bytes.Repeat([]byte{c}, 1<<20)
		n, many, e := read(b)
		wantGet(t, b, n, many, e)
	}
}
