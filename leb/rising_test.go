package leb_test

import (
	"bytes"
	"math"
	"math/big"
	"slices"
	"testing"

	"verbatim/api"
	"verbatim/leb"
)

// joined is the bytes of integers, one behind the other.
func joined(l ...uint64) []byte {
	var b []byte
	for _, n := range l {
		b = append(b, written(n)...)
	}
	return b
}

// refPut is the chapter's words, with integers of any size.
func refPut(l []int64) ([]byte, api.Errno) {
	b := written(uint64(len(l)))
	for i, n := range l {
		switch {
		case n < 0 || i > 0 && n <= l[i-1]:
			return nil, api.ErrArg
		case i == 0:
			b = append(b, written(uint64(n))...)
		default:
			gap := new(big.Int).Sub(big.NewInt(n), big.NewInt(l[i-1]))
			b = append(b, written(gap.Sub(gap, big.NewInt(1)).Uint64())...)
		}
	}
	return b, api.OK
}

// refGet is the chapter's words, with integers of any size.
func refGet(b []byte, most int) ([]int64, int, api.Errno) {
	many, at, e := read(b)
	if e != api.OK {
		return nil, 0, e
	}
	if new(big.Int).SetUint64(many).Cmp(big.NewInt(int64(most))) > 0 {
		return nil, 0, api.ErrTooMany
	}
	var l []int64
	last := big.NewInt(-1)
	for ; many > 0; many-- {
		gap, n, e := read(b[at:])
		if e != api.OK {
			return nil, 0, e
		}
		last = last.Add(last, new(big.Int).SetUint64(gap))
		last = last.Add(last, big.NewInt(1))
		if !last.IsInt64() {
			return nil, 0, api.ErrLong
		}
		l = append(l, last.Int64())
		at += n
	}
	return l, at, api.OK
}

func wantPutRising(t *testing.T, l []int64, want []byte, err api.Errno) {
	t.Helper()
	if b, e := leb.PutRising(l); !bytes.Equal(b, want) || e != err || e != api.OK && b != nil {
		t.Errorf("%d: % x, error %d, want % x, error %d", l, b, e, want, err)
	}
}

func wantGetRising(t *testing.T, b []byte, most int, want []int64, many int, err api.Errno) {
	t.Helper()
	if l, n, e := leb.GetRising(b, most); !slices.Equal(l, want) || n != many || e != err || e != api.OK && l != nil {
		t.Errorf("% x, at most %d: %d of %d bytes, error %d, want %d of %d bytes, error %d", b, most, l, n, e, want, many, err)
	}
}

// lists are increasing integers, few and many, close and far apart.
func lists() [][]int64 {
	l := [][]int64{
		nil, {}, {0}, {1}, {127}, {128}, {math.MaxInt64}, {0, 1}, {0, 1, 2, 3, 4, 5}, {3, 4, 9}, {0, 128}, {0, 129}, {5, 1 << 40},
		{0, math.MaxInt64}, {1, math.MaxInt64}, {math.MaxInt64 - 1, math.MaxInt64}, {0, math.MaxInt64 - 1, math.MaxInt64},
	}
	for _, n := range []int{127, 128, 129, 5000} {
		var run []int64
		for i := range n {
			run = append(run, int64(i*i))
		}
		l = append(l, run)
	}
	x := dice(2)
	for range 500 {
		var some []int64
		for range x.roll(20) {
			some = append(some, int64(x.wide()>>1))
		}
		slices.Sort(some)
		l = append(l, slices.Compact(some))
	}
	return l
}

func TestP31PutRisingKnown(t *testing.T) {
	for _, x := range []struct {
		l    []int64
		want string
		err  api.Errno
	}{
		{nil, "\x00", api.OK},
		{[]int64{}, "\x00", api.OK},
		{[]int64{0}, "\x01\x00", api.OK},
		{[]int64{3, 4, 9}, "\x03\x03\x00\x04", api.OK},
		{[]int64{0, 128}, "\x02\x00\x7f", api.OK},
		{[]int64{0, 129}, "\x02\x00\x80\x01", api.OK},
		{[]int64{math.MaxInt64}, "\x01\xff\xff\xff\xff\xff\xff\xff\xff\x7f", api.OK},
		{[]int64{0, math.MaxInt64}, "\x02\x00\xfe\xff\xff\xff\xff\xff\xff\xff\x7f", api.OK},
		{[]int64{-1}, "", api.ErrArg},
		{[]int64{math.MinInt64}, "", api.ErrArg},
		{[]int64{-1, 0}, "", api.ErrArg},
		{[]int64{math.MinInt64, math.MaxInt64}, "", api.ErrArg},
		{[]int64{3, 3}, "", api.ErrArg},
		{[]int64{3, 2}, "", api.ErrArg},
		{[]int64{0, 0}, "", api.ErrArg},
		{[]int64{0, -1}, "", api.ErrArg},
		{[]int64{1, 2, 3, 3}, "", api.ErrArg},
		{[]int64{1, 5, 3, 9}, "", api.ErrArg},
		{[]int64{math.MaxInt64, math.MaxInt64}, "", api.ErrArg},
		{[]int64{math.MaxInt64, 0}, "", api.ErrArg},
		{[]int64{math.MaxInt64, math.MinInt64}, "", api.ErrArg},
	} {
		wantPutRising(t, x.l, []byte(x.want), x.err)
	}
}

func TestP31PutRisingAll(t *testing.T) {
	for _, l := range lists() {
		want, e := refPut(l)
		wantPutRising(t, l, want, e)
		for i := range min(len(l), 30) { // each place where it may be wrong
			for _, n := range []int64{math.MinInt64, -1, 0, 1, l[max(i-1, 0)], l[i] - 1, l[i], math.MaxInt64} {
				bad := slices.Clone(l)
				bad[i] = n
				want, e := refPut(bad)
				wantPutRising(t, bad, want, e)
			}
		}
	}
}

func TestP31GetRisingKnown(t *testing.T) {
	for _, x := range []struct {
		b    string
		most int
		want []int64
		many int
		err  api.Errno
	}{
		{"", 9, nil, 0, api.ErrEnd},
		{"\x80", 9, nil, 0, api.ErrEnd},
		{"\x80\x00", 9, nil, 0, api.ErrLong},
		{"\x00", 0, nil, 1, api.OK},
		{"\x00\x80", 9, nil, 1, api.OK},
		{"\x03\x03\x00\x04", 3, []int64{3, 4, 9}, 4, api.OK},
		{"\x03\x03\x00\x04", 4, []int64{3, 4, 9}, 4, api.OK},
		{"\x03\x03\x00\x04\x80", 3, []int64{3, 4, 9}, 4, api.OK},
		{"\x03\x03\x00\x04", 2, nil, 0, api.ErrTooMany},
		{"\x03\x03\x00\x04", 0, nil, 0, api.ErrTooMany},
		{"\x03\x03\x00\x04", -1, nil, 0, api.ErrTooMany},
		{"\x00", -1, nil, 0, api.ErrTooMany},
		{"\x00", math.MinInt, nil, 0, api.ErrTooMany},
		{"\x03\x03\x00", 3, nil, 0, api.ErrEnd},
		{"\x03\x03\x00\x84", 3, nil, 0, api.ErrEnd},
		{"\x03", 3, nil, 0, api.ErrEnd},
		{"\x03\x03\x80\x00\x04", 3, nil, 0, api.ErrLong},
		{"\x02\x05\x85\x00", 3, nil, 0, api.ErrLong},
		{"\x02\x05\xff\xff\xff\xff\xff\xff\xff\xff\xff\x02", 3, nil, 0, api.ErrLong},
	} {
		wantGetRising(t, []byte(x.b), x.most, x.want, x.many, x.err)
	}
	wantGetRising(t, nil, 9, nil, 0, api.ErrEnd)
}

// TestP31GetRisingInOrder: of several errors the one that is met first, reading on, is told; an integer behind it is not looked at.
func TestP31GetRisingInOrder(t *testing.T) {
	wantGetRising(t, []byte{3}, 2, nil, 0, api.ErrTooMany)
	wantGetRising(t, []byte{3, 0x80, 0}, 2, nil, 0, api.ErrTooMany)
	wantGetRising(t, []byte{0x80}, -1, nil, 0, api.ErrEnd)
	wantGetRising(t, []byte{0x80, 0}, -1, nil, 0, api.ErrLong)
	wantGetRising(t, joined(3, 1<<63), 3, nil, 0, api.ErrLong)
	wantGetRising(t, joined(3, math.MaxInt64, 0), 3, nil, 0, api.ErrLong)
	wantGetRising(t, append(joined(3, math.MaxInt64), 0x80), 3, nil, 0, api.ErrEnd)
}

func TestP31GetRisingTop(t *testing.T) {
	for _, x := range []struct {
		gaps []uint64
		want []int64
	}{
		{[]uint64{math.MaxInt64}, []int64{math.MaxInt64}},
		{[]uint64{1 << 63}, nil},
		{[]uint64{1<<63 + 1}, nil},
		{[]uint64{math.MaxUint64}, nil},
		{[]uint64{0, math.MaxInt64 - 1}, []int64{0, math.MaxInt64}},
		{[]uint64{0, math.MaxInt64}, nil},
		{[]uint64{0, 1 << 63}, nil},
		{[]uint64{0, math.MaxUint64}, nil},
		{[]uint64{5, math.MaxUint64}, nil},
		{[]uint64{5, math.MaxUint64 - 5}, nil},
		{[]uint64{5, math.MaxUint64 - 6}, nil},
		{[]uint64{math.MaxInt64 - 1, 0}, []int64{math.MaxInt64 - 1, math.MaxInt64}},
		{[]uint64{math.MaxInt64 - 1, 1}, nil},
		{[]uint64{math.MaxInt64, 0}, nil},
		{[]uint64{math.MaxInt64, 1 << 63}, nil},
		{[]uint64{math.MaxInt64, math.MaxUint64}, nil},
		{[]uint64{math.MaxInt64, 1<<63 - 1}, nil},
		{[]uint64{1 << 62, 1<<62 - 2}, []int64{1 << 62, math.MaxInt64}},
		{[]uint64{1 << 62, 1<<62 - 1}, nil},
	} {
		b := joined(append([]uint64{uint64(len(x.gaps))}, x.gaps...)...)
		if len(x.want) > 0 {
			wantGetRising(t, b, 9, x.want, len(b), api.OK)
		} else {
			wantGetRising(t, b, 9, nil, 0, api.ErrLong)
		}
	}
}

// TestP31GetRisingHuge: a number that nothing can hold is no reason to make room for it.
func TestP31GetRisingHuge(t *testing.T) {
	for _, many := range []uint64{1 << 20, 1 << 31, 1 << 32, 1<<62 + 1, math.MaxInt64} {
		wantGetRising(t, append(joined(many), 1, 2, 3), math.MaxInt, nil, 0, api.ErrEnd)
		wantGetRising(t, append(joined(many), 1, 2, 3), int(many)-1, nil, 0, api.ErrTooMany)
	}
	for _, many := range []uint64{1 << 63, 1<<63 + 1, 1<<64 - 2, math.MaxUint64} {
		for _, most := range []int{math.MaxInt, 3, 0, -1, -2, math.MinInt} {
			wantGetRising(t, append(joined(many), 1, 2, 3), most, nil, 0, api.ErrTooMany)
		}
	}
}

func TestP31GetRisingAll(t *testing.T) {
	x := dice(3)
	for _, b := range samples() {
		for _, most := range []int{-1, 0, 1, 2, 200, math.MaxInt} {
			want, many, e := refGet(b, most)
			wantGetRising(t, b, most, want, many, e)
		}
	}
	for range 20000 {
		l := []uint64{uint64(x.roll(6))}
		for range x.roll(6) {
			l = append(l, x.wide()>>x.roll(40))
		}
		b := joined(l...)
		b[x.roll(len(b))] ^= byte(x.roll(3) * x.roll(256))
		most := x.roll(8) - 1
		want, many, e := refGet(b, most)
		wantGetRising(t, b, most, want, many, e)
	}
}

func TestP32RisingReadBack(t *testing.T) {
	for _, l := range lists() {
		b, e := leb.PutRising(l)
		if e != api.OK {
			t.Fatalf("%d: error %d", l, e)
		}
		for _, tail := range []string{"", "\x00", "\xff"} {
			wantGetRising(t, append(slices.Clone(b), tail...), len(l), l, len(b), api.OK)
			wantGetRising(t, append(slices.Clone(b), tail...), len(l)-1, nil, 0, api.ErrTooMany)
		}
		for i := range min(len(b), 300) {
			wantGetRising(t, b[:i], len(l), nil, 0, api.ErrEnd)
		}
	}
}

// TestP32RisingOneEncoding: what is read is, byte for byte, what PutRising would have written.
func TestP32RisingOneEncoding(t *testing.T) {
	for _, b := range samples() {
		if l, n, e := leb.GetRising(b, math.MaxInt); e == api.OK {
			wantPutRising(t, l, b[:n], api.OK)
		}
	}
}

func TestP3RisingTakesNothing(t *testing.T) {
	back := []int64{9, 3, 4, 9, 9}
	wantPutRising(t, back[1:4], []byte{3, 3, 0, 4}, api.OK)
	wantPutRising(t, back[1:5], nil, api.ErrArg)
	if !slices.Equal(back, []int64{9, 3, 4, 9, 9}) {
		t.Errorf("what was passed: %d", back)
	}
	room := []byte{9, 3, 3, 0, 4, 9}
	wantGetRising(t, room[1:5], 3, []int64{3, 4, 9}, 4, api.OK)
	wantGetRising(t, room[1:4], 3, nil, 0, api.ErrEnd)
	wantBytes(t, "what was passed", room, []byte{9, 3, 3, 0, 4, 9})
}

func TestP3RisingIsNew(t *testing.T) {
	a, _ := leb.PutRising([]int64{3, 4, 9})
	b, _ := leb.PutRising([]int64{3, 4, 9})
	spoil(a)
	wantBytes(t, "another call's bytes were changed", b, []byte{3, 3, 0, 4})
	l, _, _ := leb.GetRising(b, 3)
	m, _, _ := leb.GetRising(b, 3)
	clear(l[:cap(l)])
	spoil(b)
	if !slices.Equal(m, []int64{3, 4, 9}) {
		t.Errorf("another call's integers were changed: %d", m)
	}
}
