package page_test

import (
	"encoding/hex"
	"math"
	"strings"
	"testing"

	"spool/api"
	"spool/page"
)

// holdsRight holds Right and Lay of a page against what they are to answer.
func holdsRight(t *testing.T, p page.Page, want bool) {
	t.Helper()
	if got := page.Right(p); got != want {
		t.Errorf("Right(%+v) = %v", p, got)
	}
	b, err := page.Lay(p)
	if want {
		if b != toldLay(p) || err != api.OK {
			t.Errorf("Lay(%+v) = %x, %d, want %x", p, b, err, toldLay(p))
		}
	} else if b != (api.Page{}) || err != api.ErrArg {
		t.Errorf("Lay(%+v) = %x, %d", p, b, err)
	}
}

// TestRoom holds the constant (17.1).
func TestRoom(t *testing.T) {
	if page.Room != room {
		t.Errorf("Room = %d", page.Room)
	}
}

// TestKinds tries each kind that may be, and what is none: some of them would be, if they were cut to a byte or more (17.1).
func TestKinds(t *testing.T) {
	for _, kind := range []int{
		math.MinInt, math.MinInt + 1, math.MinInt + 2, -1 << 32, 1 - 1<<32, -256, -255, -254, -3, -2, -1, 0, 3, 4, 128, 129, 130,
		255, 256, 257, 258, 259, 1<<16 + 1, 1<<16 + 2, 1<<31 + 1, 1 << 32, 1<<32 + 1, 1<<32 + 2, math.MaxInt - 1, math.MaxInt,
	} {
		for _, s := range shapes() {
			holdsRight(t, page.Page{Epoch: 1, Number: 2, Kind: kind, First: s.first, Last: s.last, Data: "abc"}, false)
		}
	}
	holdsRight(t, page.Page{Epoch: 1, Number: 2, Kind: 1, Data: "abc"}, true)
	holdsRight(t, page.Page{Epoch: 1, Number: 2, Kind: 2, Data: "abc"}, true)
}

// TestLengths tries data of all lengths that may be, of none and of more, some of which would be right if they were cut to a byte or two (17.1).
func TestLengths(t *testing.T) {
	lengths := []int{255, 256, 257, 300, 305, 306, 4096, 65535, 65536, 65537, 65600, 1 << 20}
	for n := range 130 {
		lengths = append(lengths, n)
	}
	for _, n := range lengths {
		for _, s := range shapes() {
			for _, c := range []string{"\x00", "x"} {
				p := page.Page{Epoch: 5, Number: 6, Kind: s.kind, First: s.first, Last: s.last, Data: strings.Repeat(c, n)}
				holdsRight(t, p, n >= 1 && n <= 49)
			}
		}
	}
}

// TestMarks tries heads, which have no marks, and data of all marks (17.1).
func TestMarks(t *testing.T) {
	for _, c := range []struct {
		kind        int
		first, last bool
		want        bool
	}{
		{1, false, false, true},
		{1, true, false, false},
		{1, false, true, false},
		{1, true, true, false},
		{2, false, false, true},
		{2, true, false, true},
		{2, false, true, true},
		{2, true, true, true},
	} {
		for _, n := range []int{1, 4, 48, 49} {
			holdsRight(t, page.Page{Epoch: 1, Number: 16, Kind: c.kind, First: c.first, Last: c.last, Data: strings.Repeat("\x01", n)}, c.want)
		}
	}
}

// TestSeveralWrong tries pages of which more than one thing isn't right, and pages that are nothing but zero values (17.1).
func TestSeveralWrong(t *testing.T) {
	for _, kind := range []int{math.MinInt, -1, 0, 1, 2, 3, 257, 258, math.MaxInt} {
		for _, n := range []int{0, 1, 49, 50} {
			for _, marks := range []int{0, 1, 2, 3} {
				p := page.Page{Kind: kind, First: marks%2 == 1, Last: marks/2 == 1, Data: strings.Repeat("z", n)}
				holdsRight(t, p, toldRight(p))
			}
		}
	}
	holdsRight(t, page.Page{}, false)
}

// TestAnyNumbers holds that an epoch and a number may be any, and lie the lowest byte first (17.1).
func TestAnyNumbers(t *testing.T) {
	for _, epoch := range numbers() {
		for _, number := range numbers() {
			for _, s := range shapes() {
				p := page.Page{Epoch: epoch, Number: number, Kind: s.kind, First: s.first, Last: s.last, Data: "\x07\x00"}
				holdsRight(t, p, true)
				b, _ := page.Lay(p)
				for i := range 4 {
					if b[4+i] != byte(epoch>>(8*i)) || b[8+i] != byte(number>>(8*i)) {
						t.Fatalf("Lay(%+v) = %x", p, b)
					}
				}
			}
		}
	}
}

// TestLayAsTold holds the bytes of right pages of all shapes and lengths against the chapter's words (17.1).
func TestLayAsTold(t *testing.T) {
	for _, p := range pages() {
		holdsRight(t, p, true)
	}
}

// TestLayAsWorkedOut holds the bytes of right pages against bytes that were worked out apart (17.1).
func TestLayAsWorkedOut(t *testing.T) {
	for _, c := range []struct {
		p    page.Page
		want string // without the zero bytes at its end
	}{
		{page.Page{Epoch: 258, Number: 7, Kind: 2, First: true, Data: "hello"}, "3b7dc736020100000700000002010568656c6c6f"},
		{page.Page{Kind: 1, Data: "\x00"}, "d207991f0000000000000000010001"},
		{page.Page{Epoch: 1, Number: 16, Kind: 1, Data: "\x01\x00\x00\x00"}, "0cb7bd0b010000001000000001000401"},
		{page.Page{Epoch: math.MaxUint32, Number: math.MaxUint32, Kind: 2, First: true, Last: true, Data: strings.Repeat("\xff", 49)}, "14849a39ffffffffffffffff020331" + strings.Repeat("ff", 49)},
		{page.Page{Epoch: 0x01020304, Number: 0x05060708, Kind: 2, Last: true, Data: string(ascending(200, 48))}, "e77e28c80403020108070605020230" + hex.EncodeToString(ascending(200, 48))},
		{page.Page{Epoch: 256, Number: 65536, Kind: 2, Data: "\x00\xff\x00"}, "c4e9c4c3000100000000010002000300ff"},
		{page.Page{Epoch: 1 << 31, Number: 1023, Kind: 2, First: true, Last: true, Data: "x"}, "e160974200000080ff03000002030178"},
	} {
		want := c.want + strings.Repeat("00", 64-len(c.want)/2)
		b, err := page.Lay(c.p)
		if got := hex.EncodeToString(b[:]); got != want || err != api.OK {
			t.Errorf("Lay(%+v) = %s, %d, want %s", c.p, got, err, want)
		}
		if q, err := page.Read(b); q != c.p || err != api.OK {
			t.Errorf("Read(%x) = %+v, %d", b, q, err)
		}
	}
}

// ascending answers n bytes from one on, each of them one more than the one ahead.
func ascending(from, n int) []byte {
	list := make([]byte, n)
	for i := range list {
		list[i] = byte(from + i)
	}
	return list
}

// TestUnlikePages holds that pages that aren't alike have no bytes in common: each field is told of them (17.1, 17.2).
func TestUnlikePages(t *testing.T) {
	seen := map[api.Page]page.Page{}
	for _, p := range pages() {
		b, _ := page.Lay(p)
		if other, ok := seen[b]; ok && other != p {
			t.Fatalf("%+v and %+v have the same bytes", p, other)
		}
		seen[b] = p
	}
}
