package frag_test

import (
	"math"
	"slices"
	"strings"
	"testing"
	"unsafe"

	"spool/api"
	"spool/frag"
	"spool/page"
)

// epochs answers epochs at the edges and between them.
func epochs() []uint32 {
	return []uint32{0, 1, 2, 255, 256, 1 << 16, 1 << 31, math.MaxUint32 - 1, math.MaxUint32}
}

// edges answers the lengths at which a record has one piece more, and those beside them.
func edges() []int {
	return []int{1, 2, 47, 48, 49, 50, 51, 97, 98, 99, 100, 147, 148, 4066, 4067, 4068, 4095, 4096}
}

// strangers answers numbers of bytes that no record has: some of them would be one's, if they were cut.
func strangers() []int {
	return []int{
		math.MinInt, math.MinInt + 1, math.MinInt + 49, -1 << 32, 1 - 1<<32, -1 << 31, -1 << 16, -4097, -4096, -98, -50, -49, -48, -2, -1, 0,
		4097, 4098, 4116, 4117, 8192, 1 << 16, 1<<16 + 1, 1 << 31, 1 << 32, 1<<32 + 1, math.MaxInt - 49, math.MaxInt - 48, math.MaxInt - 1, math.MaxInt,
	}
}

// records answers records of n bytes: of 0s, of 255s, of both, and of bytes each of which tells its place.
func records(n int) []string {
	places := make([]byte, n)
	for i := range places {
		places[i] = byte(i ^ i>>8*37)
	}
	return []string{
		strings.Repeat("\x00", n), strings.Repeat("\xff", n), strings.Repeat("\x00\xff", n)[:n],
		string(places), text(n, mixed()),
	}
}

// toldPages counts a record's pieces, one by one.
func toldPages(size int) int {
	n := 0
	for size > 0 {
		n++
		size -= room
	}
	return n
}

// cut answers the pieces of a record that isn't refused.
func cut(t *testing.T, epoch uint32, rec string) []page.Page {
	t.Helper()
	list, err := frag.Cut(epoch, rec)
	if err != api.OK {
		t.Fatalf("Cut of %d bytes = %d", len(rec), err)
	}
	return list
}

// TestPages tries the lengths that a record may have, and what is none (18.1).
func TestPages(t *testing.T) {
	for _, c := range []struct{ size, want int }{
		{math.MinInt, 0}, {-1, 0}, {0, 0}, {1, 1}, {48, 1}, {49, 1}, {50, 2}, {98, 2}, {99, 3}, {147, 3}, {148, 4},
		{4067, 83}, {4068, 84}, {4095, 84}, {4096, 84}, {4097, 0}, {math.MaxInt, 0},
	} {
		if got := frag.Pages(c.size); got != c.want {
			t.Errorf("Pages(%d) = %d, want %d", c.size, got, c.want)
		}
	}
	for size := 1; size <= most; size++ {
		if got := frag.Pages(size); got != toldPages(size) {
			t.Errorf("Pages(%d) = %d, want %d", size, got, toldPages(size))
		}
	}
	for _, size := range strangers() {
		if got := frag.Pages(size); got != 0 {
			t.Errorf("Pages(%d) = %d", size, got)
		}
	}
}

// TestCutRefused tries records of no bytes, and of more than there may be (18.1).
func TestCutRefused(t *testing.T) {
	for _, n := range []int{0, 4097, 4098, 4116, 4117, 8192, 1 << 16, 1<<16 + 1, 1 << 20} {
		for _, epoch := range epochs() {
			for _, c := range []string{"\x00", "x"} {
				if list, err := frag.Cut(epoch, strings.Repeat(c, n)); len(list) != 0 || err != api.ErrSize {
					t.Errorf("Cut(%d) of %d bytes = %v, %d", epoch, n, list, err)
				}
			}
		}
	}
}

// holdsCut holds the pieces of a record against the chapter's words.
func holdsCut(t *testing.T, epoch uint32, rec string) {
	t.Helper()
	list := cut(t, epoch, rec)
	if len(list) != toldPages(len(rec)) || len(list) != frag.Pages(len(rec)) {
		t.Fatalf("Cut of %d bytes: %d pieces", len(rec), len(list))
	}
	left := rec
	for i, p := range list {
		n := min(len(left), room)
		want := page.Page{Epoch: epoch, Kind: data, First: i == 0, Last: i == len(list)-1, Data: left[:n]}
		if p != want || !page.Right(p) {
			t.Fatalf("Cut(%d) of %d bytes: piece %d = %+v, want %+v", epoch, len(rec), i, p, want)
		}
		left = left[n:]
	}
	if left != "" {
		t.Fatalf("Cut of %d bytes leaves %q", len(rec), left)
	}
}

// TestCut holds pieces of records of all lengths, and of all epochs at the edges, against the chapter's words (18.1).
func TestCut(t *testing.T) {
	for _, n := range edges() {
		for _, epoch := range epochs() {
			for _, rec := range records(n) {
				holdsCut(t, epoch, rec)
			}
		}
	}
	for n := 1; n <= most; n++ {
		holdsCut(t, uint32(n), records(n)[3])
	}
}

// TestCutAsWorkedOut holds pieces against those that were worked out apart (18.1).
func TestCutAsWorkedOut(t *testing.T) {
	long := strings.Repeat("0123456789", 10)
	for _, c := range []struct {
		epoch uint32
		rec   string
		want  []page.Page
	}{
		{0, "\x00", []page.Page{{Kind: 2, First: true, Last: true, Data: "\x00"}}},
		{math.MaxUint32, "\xff\x00\xff", []page.Page{{Epoch: 4294967295, Kind: 2, First: true, Last: true, Data: "\xff\x00\xff"}}},
		{1, long[:48], []page.Page{{Epoch: 1, Kind: 2, First: true, Last: true, Data: "012345678901234567890123456789012345678901234567"}}},
		{1, long[:49], []page.Page{{Epoch: 1, Kind: 2, First: true, Last: true, Data: "0123456789012345678901234567890123456789012345678"}}},
		{2, long[:50], []page.Page{
			{Epoch: 2, Kind: 2, First: true, Data: "0123456789012345678901234567890123456789012345678"},
			{Epoch: 2, Kind: 2, Last: true, Data: "9"},
		}},
		{3, long[:98], []page.Page{
			{Epoch: 3, Kind: 2, First: true, Data: "0123456789012345678901234567890123456789012345678"},
			{Epoch: 3, Kind: 2, Last: true, Data: "9012345678901234567890123456789012345678901234567"},
		}},
		{4, long[:99], []page.Page{
			{Epoch: 4, Kind: 2, First: true, Data: "0123456789012345678901234567890123456789012345678"},
			{Epoch: 4, Kind: 2, Data: "9012345678901234567890123456789012345678901234567"},
			{Epoch: 4, Kind: 2, Last: true, Data: "8"},
		}},
	} {
		if got, err := frag.Cut(c.epoch, c.rec); !slices.Equal(got, c.want) || err != api.OK {
			t.Errorf("Cut(%d, %q) = %+v, %d, want %+v", c.epoch, c.rec, got, err, c.want)
		}
	}
}

// TestExample is the chapter's example: 50 bytes (18.1).
func TestExample(t *testing.T) {
	if list := cut(t, 1, strings.Repeat("x", 50)); len(list) != 2 || frag.Pages(50) != 2 {
		t.Errorf("Cut of 50 bytes = %+v; Pages = %d", list, frag.Pages(50))
	}
}

// TestCutIsNew holds that what was cut shares no memory with what is cut next, spare room included (18.1).
func TestCutIsNew(t *testing.T) {
	for _, n := range edges() {
		rec := records(n)[3]
		list := cut(t, 5, rec)
		was := slices.Clone(list)
		other := cut(t, 5, rec)
		for i := range other[:cap(other)] {
			other[:cap(other)][i] = page.Page{Epoch: 9, Data: "changed"}
		}
		cut(t, 6, strings.Repeat("z", n))
		if !slices.Equal(list, was) {
			t.Errorf("of %d bytes: the pieces changed to %+v", n, list)
		}
		if again := cut(t, 5, rec); !slices.Equal(again, was) {
			t.Errorf("of %d bytes: cut again, the pieces are %+v", n, again)
		}
		if rec != records(n)[3] {
			t.Errorf("of %d bytes: the record changed", n)
		}
	}
}

// within tells whether a text lies in the memory of another one.
func within(s, of string) bool {
	at, from := uintptr(unsafe.Pointer(unsafe.StringData(s))), uintptr(unsafe.Pointer(unsafe.StringData(of)))
	return at >= from && at < from+uintptr(len(of))
}

// TestOwnText holds that neither pieces nor what was joined lie in the memory of what was handed in (18.1, 18.2).
func TestOwnText(t *testing.T) {
	for _, n := range edges() {
		if n == 1 {
			continue // Go has texts of one byte of its own, which all share
		}
		rec := records(n)[3]
		j := &frag.Joiner{}
		for _, p := range cut(t, 1, rec) {
			if within(p.Data, rec) {
				t.Errorf("of %d bytes: a piece lies in the record", n)
			}
			if told, ended, _ := j.Take(p); ended && within(told, p.Data) {
				t.Errorf("of %d bytes: what was joined lies in its last piece", n)
			}
		}
	}
}
