package leb_test

import (
	"bytes"
	"math"
	"math/big"
	"slices"
	"strconv"
	"testing"

	"verbatim/api"
	"verbatim/leb"
)

// ref is the chapter's words: bytes, a position, and the first error.
type ref struct {
	b   []byte
	at  int
	err api.Errno
}

func (r *ref) int(most int) int {
	if r.err != api.OK {
		return 0
	}
	n, many, e := read(r.b[r.at:])
	if e == api.OK && new(big.Int).SetUint64(n).Cmp(big.NewInt(int64(most))) > 0 {
		e = api.ErrLong
	}
	if e != api.OK {
		r.err = e
		return 0
	}
	r.at += many
	return int(n)
}

func (r *ref) bytes(n int) []byte {
	if r.err != api.OK || n <= 0 {
		return nil
	}
	if len(r.b)-r.at < n {
		r.err = api.ErrEnd
		return nil
	}
	r.at += n
	return r.b[r.at-n : r.at]
}

func (r *ref) text(most int) []byte { return r.bytes(r.int(most)) }

func (r *ref) left() int {
	if r.err != api.OK {
		return 0
	}
	return len(r.b) - r.at
}

func wantState(t *testing.T, what string, r *leb.Reader, left int, err api.Errno) {
	t.Helper()
	if r.Left() != left || r.Err() != err {
		t.Errorf("%s: %d left, error %d, want %d, error %d", what, r.Left(), r.Err(), left, err)
	}
}

func wantInt(t *testing.T, r *leb.Reader, most, want int) {
	t.Helper()
	if n := r.Int(most); n != want {
		t.Errorf("at most %d: %d, want %d", most, n, want)
	}
}

// wantRead also has what is none be nil, which the chapter says.
func wantRead(t *testing.T, what string, got []byte, want string) {
	t.Helper()
	if string(got) != want || want == "" && got != nil {
		t.Errorf("%s: %#v, want %q", what, got, want)
	}
}

func TestP31ReaderAtItsBeginning(t *testing.T) {
	wantState(t, "nil", leb.New(nil), 0, api.OK)
	wantState(t, "empty", leb.New([]byte{}), 0, api.OK)
	wantState(t, "wrong bytes that nobody read", leb.New([]byte{0x80, 0, 1}), 3, api.OK)
}

func TestP31ReaderReadsOn(t *testing.T) {
	r := leb.New([]byte("\x05\xac\x02\x02ab\x00cde\x01"))
	wantInt(t, r, 5, 5)
	wantState(t, "an integer", r, 10, api.OK)
	wantInt(t, r, 300, 300)
	wantState(t, "an integer of two bytes", r, 8, api.OK)
	wantRead(t, "text", r.Text(2), "ab")
	wantState(t, "text", r, 5, api.OK)
	wantRead(t, "text of no bytes", r.Text(0), "")
	wantState(t, "text of no bytes", r, 4, api.OK)
	wantRead(t, "bytes", r.Bytes(3), "cde")
	wantState(t, "bytes", r, 1, api.OK)
	wantInt(t, r, 9, 1)
	wantState(t, "all", r, 0, api.OK)
	wantInt(t, r, 9, 0)
	wantState(t, "beyond all", r, 0, api.ErrEnd)
}

func TestP31ReaderInt(t *testing.T) {
	top := joined(math.MaxInt64)
	for _, x := range []struct {
		b    string
		most int
		want int
		left int
		err  api.Errno
	}{
		{"\x05x", 5, 5, 1, api.OK},
		{"\x05x", 6, 5, 1, api.OK},
		{"\x05x", 4, 0, 0, api.ErrLong},
		{"\x05x", 0, 0, 0, api.ErrLong},
		{"\x05x", -1, 0, 0, api.ErrLong},
		{"\x05x", math.MinInt, 0, 0, api.ErrLong},
		{"\x05x", math.MaxInt, 5, 1, api.OK},
		{"\x00x", 0, 0, 1, api.OK},
		{"\x00x", -1, 0, 0, api.ErrLong},
		{"\x00x", math.MinInt, 0, 0, api.ErrLong},
		{"", 9, 0, 0, api.ErrEnd},
		{"", -1, 0, 0, api.ErrEnd},
		{"\x80", 0, 0, 0, api.ErrEnd},
		{"\x80\x00", 9, 0, 0, api.ErrLong},
		{string(top), math.MaxInt, math.MaxInt64, 0, api.OK},
		{string(top), math.MaxInt - 1, 0, 0, api.ErrLong},
		{string(joined(1 << 63)), math.MaxInt, 0, 0, api.ErrLong},
		{string(joined(1 << 63)), math.MinInt, 0, 0, api.ErrLong},
		{string(joined(math.MaxUint64)), math.MaxInt, 0, 0, api.ErrLong},
		{string(joined(math.MaxUint64)), -1, 0, 0, api.ErrLong},
	} {
		r := leb.New([]byte(x.b))
		wantInt(t, r, x.most, x.want)
		wantState(t, strconv.Quote(x.b)+", at most "+strconv.Itoa(x.most), r, x.left, x.err)
	}
}

func TestP31ReaderBytes(t *testing.T) {
	for _, x := range []struct {
		n    int
		want string
		left int
		err  api.Errno
	}{
		{0, "", 3, api.OK},
		{-1, "", 3, api.OK},
		{math.MinInt, "", 3, api.OK},
		{1, "a", 2, api.OK},
		{2, "ab", 1, api.OK},
		{3, "abc", 0, api.OK},
		{4, "", 0, api.ErrEnd},
		{math.MaxInt, "", 0, api.ErrEnd},
	} {
		r := leb.New([]byte("abc"))
		wantRead(t, strconv.Itoa(x.n), r.Bytes(x.n), x.want)
		wantState(t, strconv.Itoa(x.n), r, x.left, x.err)
	}
	r := leb.New(nil)
	wantRead(t, "none of none", r.Bytes(0), "")
	wantState(t, "none of none", r, 0, api.OK)
	wantRead(t, "one of none", r.Bytes(1), "")
	wantState(t, "one of none", r, 0, api.ErrEnd)
}

func TestP31ReaderText(t *testing.T) {
	for _, x := range []struct {
		b    string
		most int
		want string
		left int
		err  api.Errno
	}{
		{"\x02abc", 2, "ab", 1, api.OK},
		{"\x02abc", 1, "", 0, api.ErrLong},
		{"\x02abc", -1, "", 0, api.ErrLong},
		{"\x03abc", 9, "abc", 0, api.OK},
		{"\x04abc", 9, "", 0, api.ErrEnd},
		{"\x04abc", 3, "", 0, api.ErrLong},
		{"\x00abc", 9, "", 3, api.OK},
		{"\x00abc", -1, "", 0, api.ErrLong},
		{"", 9, "", 0, api.ErrEnd},
		{"\x81", 9, "", 0, api.ErrEnd},
		{"\x81\x00a", 9, "", 0, api.ErrLong},
		{string(joined(math.MaxInt64)) + "abc", math.MaxInt, "", 0, api.ErrEnd},
		{string(joined(math.MaxUint64)) + "abc", math.MaxInt, "", 0, api.ErrLong},
	} {
		r := leb.New([]byte(x.b))
		wantRead(t, strconv.Quote(x.b), r.Text(x.most), x.want)
		wantState(t, strconv.Quote(x.b)+", at most "+strconv.Itoa(x.most), r, x.left, x.err)
	}
}

// TestP31ReaderFirstError: after an error nothing is read, and no other error takes its place.
func TestP31ReaderFirstError(t *testing.T) {
	for _, first := range []api.Errno{api.ErrLong, api.ErrEnd} {
		r := leb.New([]byte("\x05\x01abc"))
		if first == api.ErrLong {
			wantInt(t, r, 4, 0)
		} else {
			wantRead(t, "too many", r.Bytes(6), "")
		}
		for range 2 {
			wantState(t, "after the first error", r, 0, first)
			wantInt(t, r, 9, 0)
			wantInt(t, r, -1, 0)
			wantRead(t, "none", r.Bytes(0), "")
			wantRead(t, "one", r.Bytes(1), "")
			wantRead(t, "too many", r.Bytes(99), "")
			wantRead(t, "text", r.Text(9), "")
			wantRead(t, "text, at most -1", r.Text(-1), "")
		}
		wantState(t, "after all", r, 0, first)
	}
}

// TestP31ReaderRef plays many scripts on a reader and on the reference, and compares all after each step.
func TestP31ReaderRef(t *testing.T) {
	odd := []int{math.MinInt, -1, 0, 1, 2, 3, 5, 9, 130, 1 << 20, math.MaxInt}
	for seed := range 5000 {
		x := dice(seed)
		var b []byte
		for range x.roll(12) {
			if x.roll(3) == 0 {
				b = append(b, byte(x.next()))
			} else {
				b = append(b, written(uint64(x.roll(4))*x.wide()>>x.roll(64))...)
			}
		}
		r, want := leb.New(b), &ref{b: b}
		for range 10 {
			n := odd[x.roll(len(odd))]
			switch x.roll(3) {
			case 0:
				wantInt(t, r, n, want.int(n))
			case 1:
				wantRead(t, "bytes", r.Bytes(n), string(want.bytes(n)))
			case 2:
				wantRead(t, "text", r.Text(n), string(want.text(n)))
			}
			wantState(t, strconv.Quote(string(b)), r, want.left(), want.err)
		}
		if t.Failed() {
			t.Fatalf("% x", b)
		}
	}
}

func TestP32ReaderReadsBack(t *testing.T) {
	var b []byte
	for _, n := range numbers() {
		if n <= math.MaxInt64 {
			b = append(b, leb.Put(n)...)
		}
	}
	r := leb.New(b)
	for _, n := range numbers() {
		if n <= math.MaxInt64 {
			wantInt(t, r, int(n), int(n))
		}
	}
	wantState(t, "all", r, 0, api.OK)
}

// TestP3ReaderKeepsNothing: what was passed may change, and so may what was returned, with its spare capacity.
func TestP3ReaderKeepsNothing(t *testing.T) {
	back := []byte("\x02abcdef\x07\x09")
	r := leb.New(back[:8])
	for i := range back {
		back[i] = 0x80
	}
	a := r.Text(9)
	wantRead(t, "text", a, "ab")
	spoil(a)
	b := r.Bytes(2)
	wantRead(t, "bytes", b, "cd")
	_ = append(b, "??????????"...)
	spoil(b)
	c := r.Bytes(2)
	wantRead(t, "bytes", c, "ef")
	spoil(b)
	wantRead(t, "bytes that were returned before", c, "ef")
	wantInt(t, r, 9, 7)
	wantState(t, "all", r, 0, api.OK)
	if !bytes.Equal(back, bytes.Repeat([]byte{0x80}, len(back))) {
		t.Errorf("what was passed: % x", back)
	}
}

func TestP3ReadersAreApart(t *testing.T) {
	b := []byte("\x01\x02\x03")
	r, s := leb.New(b), leb.New(b)
	wantInt(t, r, 0, 0)
	wantInt(t, s, 1, 1)
	wantState(t, "one", r, 0, api.ErrLong)
	wantState(t, "the other", s, 2, api.OK)
	if !slices.Equal(b, []byte("\x01\x02\x03")) {
		t.Errorf("what was passed: % x", b)
	}
}
