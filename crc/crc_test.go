package crc_test

import (
	"bytes"
	"hash/crc32"
	"math"
	"strings"
	"testing"

	"verbatim/crc"
)

// stepped is the chapter's words, bit by bit and without a table: the register goes on from that of a checksum.
func stepped(sum uint32, b []byte) uint32 {
	r := math.MaxUint32 - sum
	for _, c := range b {
		r ^= uint32(c)
		for range 8 {
			low := r % 2
			r /= 2
			if low == 1 {
				r ^= 0xedb88320
			}
		}
	}
	return math.MaxUint32 - r
}

// mixed is so many bytes without a pattern that a checksum could hide, the same at each call.
func mixed(n int) []byte {
	b, x := make([]byte, n), uint32(1)
	for i := range b {
		x = x*1664525 + 1013904223
		b[i] = byte(x >> 24)
	}
	return b
}

// samples are byte strings of each kind: none, one, alike, rising, mixed.
func samples() [][]byte {
	rising := make([]byte, 256)
	for i := range rising {
		rising[i] = byte(i)
	}
	return [][]byte{
		nil, {}, {0}, {255}, []byte("a"), []byte("123456789"), []byte("aab"), []byte("é\n\x00"),
		make([]byte, 4), make([]byte, 33), bytes.Repeat([]byte{255}, 4), bytes.Repeat([]byte{255}, 33), rising, mixed(7), mixed(64),
	}
}

var sums = []uint32{0, 1, 0x80, 0xff, 0x100, 0x80000000, 0xedb88320, 0xcbf43926, 0x12345678, math.MaxUint32 - 1, math.MaxUint32}

func want(t *testing.T, what string, got, want uint32) {
	t.Helper()
	if got != want {
		t.Errorf("%q: %#08x, want %#08x", what, got, want)
	}
}

func TestP21Known(t *testing.T) {
	for _, x := range []struct {
		text string
		sum  uint32
	}{
		{"", 0},
		{"123456789", 0xcbf43926},
		{"a", 0xe8b7be43},
		{"abc", 0x352441c2},
		{"message digest", 0x20159d7f},
		{"abcdefghijklmnopqrstuvwxyz", 0x4c2750bd},
		{"The quick brown fox jumps over the lazy dog", 0x414fa339},
		{"\x00", 0xd202ef8d},
		{"\xff", 0xff000000},
		{"\x00\x00\x00\x00", 0x2144df1c},
		{"\xff\xff\xff\xff", 0xffffffff},
		{strings.Repeat("\x00", 32), 0x190a55ad},
		{strings.Repeat("\xff", 32), 0xff6cab0b},
	} {
		want(t, x.text, crc.Sum([]byte(x.text)), x.sum)
	}
	want(t, "nil", crc.Sum(nil), 0)
}

// TestP21EachByte has each entry of a table stand behind each other one.
func TestP21EachByte(t *testing.T) {
	for i := range 256 {
		one := []byte{byte(i)}
		want(t, "one byte", crc.Sum(one), stepped(0, one))
		for j := range 256 {
			two := []byte{byte(i), byte(j)}
			want(t, "two bytes", crc.Sum(two), stepped(0, two))
		}
	}
}

func TestP21EachLength(t *testing.T) {
	b := mixed(300)
	for n := range b {
		want(t, "mixed", crc.Sum(b[:n]), stepped(0, b[:n]))
		want(t, "mixed, from its middle on", crc.Sum(b[n:]), stepped(0, b[n:]))
	}
	for _, b := range samples() {
		want(t, "sample", crc.Sum(b), stepped(0, b))
	}
}

// TestP21Long goes beyond what a file of the disk holds, and holds the sum against that of Go's library.
func TestP21Long(t *testing.T) {
	for _, n := range []int{1<<16 - 1, 1 << 16, 1<<18 + 1, 1 << 21} {
		b := mixed(n)
		want(t, "long", crc.Sum(b), crc32.ChecksumIEEE(b))
		want(t, "long zeros", crc.Sum(make([]byte, n)), crc32.ChecksumIEEE(make([]byte, n)))
	}
}

func TestP21More(t *testing.T) {
	want(t, "the example in two", crc.More(crc.Sum([]byte("12345")), []byte("6789")), 0xcbf43926)
	for _, sum := range sums {
		want(t, "no bytes", crc.More(sum, nil), sum)
		want(t, "empty", crc.More(sum, []byte{}), sum)
		for _, b := range samples() {
			want(t, "sample", crc.More(sum, b), stepped(sum, b))
			want(t, "sample, of the library", crc.More(sum, b), crc32.Update(sum, crc32.IEEETable, b))
		}
	}
	for _, b := range samples() {
		want(t, "behind no bytes", crc.More(0, b), crc.Sum(b))
	}
}

// TestP21MoreOfSum: behind any two byte strings stands the checksum that both have as one.
func TestP21MoreOfSum(t *testing.T) {
	for _, a := range samples() {
		for _, b := range samples() {
			want(t, "one behind the other", crc.More(crc.Sum(a), b), stepped(0, append(bytes.Clone(a), b...)))
		}
	}
}

func TestP22OneBit(t *testing.T) {
	for _, b := range append(samples(), mixed(1000)) {
		sum := crc.Sum(b)
		for i := range b {
			for bit := range 8 {
				b[i] ^= 1 << bit
				if crc.Sum(b) == sum {
					t.Errorf("%d bytes: bit %d of byte %d inverted, and the sum is still %#08x", len(b), bit, i, sum)
				}
				b[i] ^= 1 << bit
			}
		}
	}
}

// TestP22OneByte puts each byte at each place: no two of the 256 byte strings share a checksum.
func TestP22OneByte(t *testing.T) {
	for _, b := range samples() {
		for i := range b {
			seen, old := map[uint32]int{}, b[i]
			for c := range 256 {
				b[i] = byte(c)
				sum := crc.Sum(b)
				if first, ok := seen[sum]; ok {
					t.Errorf("%d bytes: byte %d as %d and as %d, both %#08x", len(b), i, first, c, sum)
				}
				seen[sum] = c
			}
			b[i] = old
		}
	}
}

// TestP22SumBefore: More, too, keeps apart what differs in one byte of its checksum so far.
func TestP22SumBefore(t *testing.T) {
	for _, b := range samples() {
		for _, sum := range sums {
			for bit := range 32 {
				if crc.More(sum, b) == crc.More(sum^1<<bit, b) {
					t.Errorf("%d bytes behind %#08x: bit %d of it makes no difference", len(b), sum, bit)
				}
			}
		}
	}
}

func TestP23ThreePieces(t *testing.T) {
	b := mixed(40)
	whole := crc.Sum(b)
	for i := range len(b) + 1 {
		for j := i; j <= len(b); j++ {
			want(t, "three pieces", crc.More(crc.More(crc.Sum(b[:i]), b[i:j]), b[j:]), whole)
		}
	}
}

func TestP23ManyPieces(t *testing.T) {
	for _, b := range append(samples(), mixed(5000)) {
		whole := crc.Sum(b)
		for _, n := range []int{1, 2, 3, 7, 8, 16, 255, 256, 257} {
			sum := crc.Sum(nil)
			for i := 0; i < len(b); i += n {
				sum = crc.More(sum, b[i:min(i+n, len(b))])
				sum = crc.More(sum, nil)
			}
			want(t, "many pieces", sum, whole)
		}
	}
}

// TestP3Untouched: what is passed is as it was, with what lies behind it, and what lies there is no part of it.
func TestP3Untouched(t *testing.T) {
	room := mixed(100)
	before := bytes.Clone(room)
	b := room[10:50]
	sum := crc.Sum(b)
	more := crc.More(7, b)
	if !bytes.Equal(room, before) {
		t.Error("what was passed was changed")
	}
	room[9]++
	room[50]++
	want(t, "other bytes beside it", crc.Sum(b), sum)
	want(t, "other bytes beside it, more", crc.More(7, b), more)
}

// TestP3SameAgain: no call hangs on those before it.
func TestP3SameAgain(t *testing.T) {
	for _, a := range samples() {
		sum, more := crc.Sum(a), crc.More(5, a)
		for _, b := range samples() {
			crc.Sum(b)
			crc.More(sum, b)
			want(t, "again", crc.Sum(a), sum)
			want(t, "again, more", crc.More(5, a), more)
		}
	}
}
