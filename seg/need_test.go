package seg_test

import (
	"math"
	"testing"

	"spool/seg"
)

// toldNeed counts the pages that a record takes at the next page, one by one.
func toldNeed(next uint64, size int) int {
	n := uint64(0)
	for left := size; left > 0; n++ {
		if (next+n)%span != 0 {
			left -= room
		}
	}
	return int(n)
}

// TestNeed tries the pages and sizes that are named, worked out apart (19.2).
func TestNeed(t *testing.T) {
	sizes := []int{math.MinInt, -1, 0, 1, 49, 50, 4096, 4097, math.MaxInt}
	for _, c := range []struct {
		next int
		want [9]int
	}{
		{math.MinInt, [9]int{}},
		{math.MinInt + 1, [9]int{}},
		{-16, [9]int{}},
		{-1, [9]int{}},
		{0, [9]int{0, 0, 0, 2, 2, 3, 90, 0, 0}},
		{1, [9]int{0, 0, 0, 1, 1, 2, 89, 0, 0}},
		{6, [9]int{0, 0, 0, 1, 1, 2, 89, 0, 0}},
		{7, [9]int{0, 0, 0, 1, 1, 2, 89, 0, 0}},
		{8, [9]int{0, 0, 0, 1, 1, 2, 90, 0, 0}},
		{14, [9]int{0, 0, 0, 1, 1, 2, 90, 0, 0}},
		{15, [9]int{0, 0, 0, 1, 1, 3, 90, 0, 0}},
		{16, [9]int{0, 0, 0, 2, 2, 3, 90, 0, 0}},
		{17, [9]int{0, 0, 0, 1, 1, 2, 89, 0, 0}},
		{31, [9]int{0, 0, 0, 1, 1, 3, 90, 0, 0}},
		{32, [9]int{0, 0, 0, 2, 2, 3, 90, 0, 0}},
		{1023, [9]int{0, 0, 0, 1, 1, 3, 90, 0, 0}},
		{1024, [9]int{0, 0, 0, 2, 2, 3, 90, 0, 0}},
		{1025, [9]int{0, 0, 0, 1, 1, 2, 89, 0, 0}},
		{1 << 32, [9]int{0, 0, 0, 2, 2, 3, 90, 0, 0}},
		{math.MaxInt - 15, [9]int{0, 0, 0, 2, 2, 3, 90, 0, 0}},
		{math.MaxInt - 1, [9]int{0, 0, 0, 1, 1, 2, 90, 0, 0}},
		{math.MaxInt, [9]int{0, 0, 0, 1, 1, 3, 90, 0, 0}},
	} {
		for i, size := range sizes {
			if got := seg.Need(c.next, size); got != c.want[i] {
				t.Errorf("Need(%d, %d) = %d, want %d", c.next, size, got, c.want[i])
			}
		}
	}
}

// TestNeedAsTold holds Need against the chapter's words, at all sizes, at pages around three segments, and far beyond (19.2).
func TestNeedAsTold(t *testing.T) {
	var nexts []int
	for i := range 50 {
		nexts = append(nexts, i, math.MaxInt-i, 1<<31-25+i)
	}
	for _, next := range nexts {
		for size := 1; size <= most; size++ {
			if got, want := seg.Need(next, size), toldNeed(uint64(next), size); got != want {
				t.Fatalf("Need(%d, %d) = %d, want %d", next, size, got, want)
			}
		}
		for _, size := range []int{math.MinInt, math.MinInt + 1, -1 << 32, 1 - 1<<32, -4096, -49, 4098, 4116, 1 << 16, 1<<16 + 1, 1 << 32, 1<<32 + 1, math.MaxInt - 1} {
			if got := seg.Need(next, size); got != 0 {
				t.Errorf("Need(%d, %d) = %d", next, size, got)
			}
		}
	}
	for _, next := range []int{math.MinInt, math.MinInt + 15, math.MinInt + 16, -1 << 32, -1025, -17, -16, -15, -2, -1} {
		for size := -5; size <= most+5; size++ {
			if got := seg.Need(next, size); got != 0 {
				t.Fatalf("Need(%d, %d) = %d", next, size, got)
			}
		}
	}
}
