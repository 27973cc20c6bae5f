package crc_test

import (
	"math"
	"strings"
	"testing"

	"spool/crc"
)

// slow answers the sum of a text whose sum is sum, and s behind it, bit by bit, as the chapter's head tells it.
func slow(sum uint32, s string) uint32 {
	r := uint32(sum ^ math.MaxUint32)
	for _, b := range []byte(s) {
		for i := range 8 {
			low := r&1 ^ uint32(b)>>i&1
			r /= 2
			if low == 1 {
				r ^= 0x82f63b78
			}
		}
	}
	return r ^ math.MaxUint32
}

// numbers answers n numbers, the same ones each time.
func numbers(n int) []uint32 {
	list := make([]uint32, n)
	x := uint64(88172645463325252)
	for i := range list {
		x ^= x << 13
		x ^= x >> 7
		x ^= x << 17
		list[i] = uint32(x >> 32)
	}
	return list
}

// text answers a text of n bytes of all kinds, the same one each time.
func text(n int) string {
	list := make([]byte, n)
	for i, x := range numbers(n) {
		list[i] = byte(x)
	}
	return string(list)
}

// counting answers the bytes from first on, n of them, each step more than the one ahead of it.
func counting(first, step, n int) string {
	list := make([]byte, n)
	for i := range list {
		list[i] = byte(first + i*step)
	}
	return string(list)
}

// changed answers s with the bits of row turned over, its lowest one at bit at of s, the lowest bit of each byte first; bits behind the end fall away.
func changed(s string, at int, row uint32) string {
	list := []byte(s)
	for i := range 32 {
		if bit := at + i; bit < 8*len(s) {
			list[bit/8] ^= byte(row >> i & 1 << (bit % 8))
		}
	}
	return string(list)
}

// 2.1
func TestSum(t *testing.T) {
	for _, c := range []struct {
		s    string
		want uint32
	}{
		{"", 0},
		{"123456789", 0xe3069283}, // the chapter's example
		{"a", 0xc1d04330},
		{"abc", 0x364b3fb7},
		// CRC-32C's published examples.
		{strings.Repeat("\x00", 32), 0x8a9136aa},
		{strings.Repeat("\xff", 32), 0x62a8ab43},
		{counting(0, 1, 32), 0x46dd794e},
		{counting(31, -1, 32), 0x113fdb5c},
	} {
		if got := crc.Sum(c.s); got != c.want {
			t.Errorf("Sum(%q) = %08x, want %08x", c.s, got, c.want)
		}
	}
}

// 2.1
func TestSumIsAsDefined(t *testing.T) {
	for b := range 256 {
		s := string([]byte{byte(b)})
		if got, want := crc.Sum(s), slow(0, s); got != want {
			t.Errorf("Sum(%q) = %08x, want %08x", s, got, want)
		}
	}
	for n := range 300 {
		s := text(n)
		if got, want := crc.Sum(s), slow(0, s); got != want {
			t.Fatalf("Sum of %d bytes = %08x, want %08x", n, got, want)
		}
	}
	s := text(1 << 20)
	if got, want := crc.Sum(s), slow(0, s); got != want {
		t.Errorf("Sum of 2^20 bytes = %08x, want %08x", got, want)
	}
}

// 2.1
func TestMoreOfTwoParts(t *testing.T) {
	for _, s := range []string{"", "1", "123456789", text(100), text(257)} {
		want := slow(0, s)
		for i := range len(s) + 1 {
			if got := crc.More(crc.Sum(s[:i]), s[i:]); got != want {
				t.Fatalf("More(Sum(%q), %q) = %08x, want %08x", s[:i], s[i:], got, want)
			}
		}
	}
}

// 2.1
func TestMoreOfManyParts(t *testing.T) {
	s := text(200)
	sum := uint32(0)
	for i := range len(s) {
		sum = crc.More(sum, s[i:i+1])
		if want := crc.Sum(s[:i+1]); sum != want {
			t.Fatalf("More of %d parts = %08x, want %08x", i+1, sum, want)
		}
	}
}

// 2.1
func TestMoreOfAnySum(t *testing.T) {
	for _, sum := range append(numbers(200), 0, 1, 1<<31, math.MaxUint32-1, math.MaxUint32) {
		if got := crc.More(sum, ""); got != sum {
			t.Errorf("More(%08x, \"\") = %08x", sum, got)
		}
		for n := range 20 {
			s := text(n)
			if got, want := crc.More(sum, s), slow(sum, s); got != want {
				t.Fatalf("More(%08x, %q) = %08x, want %08x", sum, s, got, want)
			}
		}
	}
}

// 2.2
func TestFour(t *testing.T) {
	for _, c := range []struct {
		x    uint32
		want string
	}{
		{0, "\x00\x00\x00\x00"},
		{1, "\x01\x00\x00\x00"},
		{0x80, "\x80\x00\x00\x00"},
		{0xff, "\xff\x00\x00\x00"},
		{0x100, "\x00\x01\x00\x00"},
		{0x01020304, "\x04\x03\x02\x01"},
		{0xfedcba98, "\x98\xba\xdc\xfe"},
		{1 << 31, "\x00\x00\x00\x80"},
		{math.MaxUint32 - 1, "\xfe\xff\xff\xff"},
		{math.MaxUint32, "\xff\xff\xff\xff"},
	} {
		if got := crc.Four(c.x); got != c.want {
			t.Errorf("Four(%08x) = %q, want %q", c.x, got, c.want)
		}
	}
}

// 2.2
func TestNumber(t *testing.T) {
	for _, c := range []struct {
		s    string
		want uint32
	}{
		{"", 0},
		{"\x05", 5},
		{"\xff", 0xff},
		{"\x05\x06", 0x0605},
		{"\x05\x06\x07", 0x070605},
		{"\xff\xff\xff", 0xffffff},
		{"\x00\x00\x01", 0x010000},
		{"\x04\x03\x02\x01", 0x01020304},
		{"\x00\x00\x00\x00", 0},
		{"\x00\x00\x00\x80", 1 << 31},
		{"\xff\xff\xff\xff", math.MaxUint32},
		{"\x04\x03\x02\x01\x09", 0x01020304},
		{"\x00\x00\x00\x00\xff", 0},
		{"\xff\xff\xff\xff\xff\xff\xff\xff\xff", math.MaxUint32},
		{"\x04\x03\x02\x01" + text(1000), 0x01020304},
	} {
		if got := crc.Number(c.s); got != c.want {
			t.Errorf("Number(%q) = %08x, want %08x", c.s, got, c.want)
		}
	}
}

// 2.2
func TestFourAndNumberThereAndBack(t *testing.T) {
	for _, x := range append(numbers(2000), 0, math.MaxUint32) {
		s := crc.Four(x)
		if got := crc.Number(s); len(s) != 4 || got != x {
			t.Fatalf("Number(Four(%08x)) = %08x, of %d bytes", x, got, len(s))
		}
		for n := range 4 {
			if got, want := crc.Number(s[:n]), crc.Number(s[:n]+"\x00\x00\x00\x00"); got != want {
				t.Fatalf("Number(%q) = %08x, want %08x", s[:n], got, want)
			}
		}
	}
}

// 2.3
func TestSingleBitIsTold(t *testing.T) {
	for _, s := range []string{"\x00", "\xff", "123456789", strings.Repeat("\x00", 64), text(300)} {
		sum := crc.Sum(s)
		for at := range 8 * len(s) {
			if crc.Sum(changed(s, at, 1)) == sum {
				t.Fatalf("bit %d of %q turned over: the same sum", at, s)
			}
		}
	}
}

// 2.3
func TestRowOfBitsIsTold(t *testing.T) {
	rows := numbers(20)
	for _, s := range []string{"\x00\x00\x00\x00", "\xff\xff\xff\xff\xff", "123456789", text(64)} {
		sum := crc.Sum(s)
		for at := range 8 * len(s) {
			for n := 1; n <= min(32, 8*len(s)-at); n++ {
				all := uint32(math.MaxUint32) >> (32 - n)
				ends := uint32(1) | 1<<(n-1)
				for _, row := range append(rows, 0, all) {
					if crc.Sum(changed(s, at, row&all|ends)) == sum {
						t.Fatalf("row %08x at bit %d of %q: the same sum", row&all|ends, at, s)
					}
				}
			}
		}
	}
}

// 2.3: what a row does to a sum is made one of what its bits do alone, so all rows are told if no bit's change is made of the others'.
func TestEveryRowOfBitsIsTold(t *testing.T) {
	for _, s := range []string{"\x00", "ab", "abc", "\x00\x00\x00\x00", "\xff\xff\xff\xff\xff", text(64)} {
		sum := crc.Sum(s)
		for at := range max(1, 8*len(s)-31) {
			var lead [32]uint32 // by their highest bits, changes that are found so far
			for i := range min(32, 8*len(s)) {
				left := crc.Sum(changed(s, at+i, 1)) ^ sum
				for bit := 31; bit >= 0; bit-- {
					if left>>bit&1 == 1 {
						if lead[bit] == 0 {
							lead[bit] = left
							break
						}
						left ^= lead[bit]
					}
				}
				if left == 0 {
					t.Fatalf("some row of bits from %d to %d of %d bytes isn't told", at, at+i, len(s))
				}
			}
		}
	}
}

// 2.3
func TestShortTextsHaveUnlikeSums(t *testing.T) {
	seen := map[uint32]int{}
	for x := range 1 << 16 {
		sum := crc.Sum(crc.Four(uint32(x))[:2])
		if other, ok := seen[sum]; ok {
			t.Fatalf("texts %04x and %04x have one sum, %08x", other, x, sum)
		}
		seen[sum] = x
	}
}
