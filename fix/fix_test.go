package fix_test

import (
	"math"
	"testing"

	"spool/fix"
)

// around answers the numbers next to the powers of two, of both signs, and the ends of the ints.
func around() []int {
	list := []int{0, math.MaxInt, math.MaxInt - 1, math.MinInt, math.MinInt + 1}
	for i := range 63 {
		for d := -3; d <= 3; d++ {
			list = append(list, 1<<i+d, -(1<<i)+d)
		}
	}
	return append(list, some(200)...)
}

// some answers n numbers of all lengths, the same ones each time.
func some(n int) []int {
	list := make([]int, n)
	x := uint64(88172645463325252)
	for i := range list {
		x ^= x << 13
		x ^= x >> 7
		x ^= x << 17
		list[i] = int(x) >> (i % 64)
	}
	return list
}

// nearest tells whether got is x by 2^n, a half upward; it is asked by products alone, which the most that got may be keeps from overflowing.
func nearest(got, x, n int) bool {
	unit, most := 1<<n, 1<<(62-n)
	return -most <= got && got <= most && got*unit <= x+unit/2 && x+unit/2 < (got+1)*unit
}

// digits counts a number's binary digits by halving it toward 0, so that the least int is no other.
func digits(x int) int {
	n := 0
	for ; x != 0; x /= 2 {
		n++
	}
	return n
}

// 1.1
func TestMul(t *testing.T) {
	const edge = 1 << 31
	for _, c := range []struct{ a, b, want int }{
		{3, 16384, 2}, // the chapter's example
		{-3, 16384, -1},
		{0, 0, 0},
		{1, 16383, 0},
		{1, 16384, 1},
		{1, -16384, 0},
		{1, -16385, -1},
		{32768, 77, 77},
		{-32768, 77, -77},
		{-32768, -32768, 32768},
		{edge, edge, 1 << 47},
		{-edge, edge, -(1 << 47)},
		{edge, -edge, -(1 << 47)},
		{-edge, -edge, 1 << 47},
		{edge - 1, 32768, edge - 1},
		{edge + 1, 32768, 0},
		{32768, edge + 1, 0},
		{-edge - 1, 32768, 0},
		{32768, -edge - 1, 0},
		{edge + 1, edge + 1, 0},
		{math.MaxInt, 32768, 0},
		{32768, math.MinInt, 0},
		{math.MinInt, math.MinInt, 0},
	} {
		if got := fix.Mul(c.a, c.b); got != c.want {
			t.Errorf("Mul(%d, %d) = %d, want %d", c.a, c.b, got, c.want)
		}
	}
}

// 1.1
func TestMulIsNearest(t *testing.T) {
	const edge = 1 << 31
	out := func(x int) bool { return x < -edge || x > edge }
	list := around()
	for _, a := range list {
		for _, b := range list {
			got := fix.Mul(a, b)
			if out(a) || out(b) {
				if got != 0 {
					t.Fatalf("Mul(%d, %d) = %d, want 0", a, b, got)
				}
			} else if !nearest(got, a*b, 15) {
				t.Fatalf("Mul(%d, %d) = %d", a, b, got)
			}
		}
	}
}

// 1.1
func TestCut(t *testing.T) {
	for _, c := range []struct{ x, n, want int }{
		{40000, 16, 32767}, // the chapter's example
		{-40000, 16, -32768},
		{32767, 16, 32767},
		{32768, 16, 32767},
		{-32768, 16, -32768},
		{-32769, 16, -32768},
		{7, 4, 7},
		{8, 4, 7},
		{0, 1, 0},
		{1, 1, 0},
		{-1, 1, -1},
		{-2, 1, -1},
		{math.MaxInt, 1, 0},
		{math.MinInt, 1, -1},
		{1<<61 - 1, 62, 1<<61 - 1},
		{1 << 61, 62, 1<<61 - 1},
		{-(1 << 61), 62, -(1 << 61)},
		{-(1 << 61) - 1, 62, -(1 << 61)},
		{math.MaxInt, 62, 1<<61 - 1},
		{math.MinInt, 62, -(1 << 61)},
		{99, 0, 99},
		{-99, 0, -99},
		{99, -1, 99},
		{math.MaxInt, 63, math.MaxInt},
		{math.MinInt, 63, math.MinInt},
		{math.MaxInt, 64, math.MaxInt},
		{math.MinInt, math.MaxInt, math.MinInt},
		{math.MaxInt, math.MinInt, math.MaxInt},
	} {
		if got := fix.Cut(c.x, c.n); got != c.want {
			t.Errorf("Cut(%d, %d) = %d, want %d", c.x, c.n, got, c.want)
		}
	}
}

// 1.1, 1.4
func TestCutIsWithinAndStays(t *testing.T) {
	for n := 1; n <= 62; n++ {
		low, high := -(1 << (n - 1)), 1<<(n-1)-1
		for _, x := range around() {
			got := fix.Cut(x, n)
			switch {
			case got < low || got > high:
				t.Fatalf("Cut(%d, %d) = %d isn't within its bits", x, n, got)
			case fix.Cut(got, n) != got:
				t.Fatalf("Cut(%d, %d) = %d, cut again %d", x, n, got, fix.Cut(got, n))
			case x < low && got != low, x > high && got != high:
				t.Fatalf("Cut(%d, %d) = %d isn't the nearer edge", x, n, got)
			case low <= x && x <= high && got != x:
				t.Fatalf("Cut(%d, %d) = %d, though it was within", x, n, got)
			}
		}
	}
}

// 1.2
func TestLength(t *testing.T) {
	for _, c := range []struct{ x, want int }{
		{0, 0}, {1, 1}, {2, 2}, {3, 2}, {4, 3}, {255, 8}, {256, 9},
		{-1, 1}, {-2, 2}, {-255, 8}, {-256, 9},
		{math.MaxInt, 63}, {math.MinInt + 1, 63}, {math.MinInt, 64},
	} {
		if got := fix.Length(c.x); got != c.want {
			t.Errorf("Length(%d) = %d, want %d", c.x, got, c.want)
		}
	}
	for _, x := range around() {
		if got, want := fix.Length(x), digits(x); got != want {
			t.Errorf("Length(%d) = %d, want %d", x, got, want)
		}
	}
}

// 1.2
func TestRoot(t *testing.T) {
	for _, c := range []struct{ x, want int }{
		{0, 0}, {1, 1}, {2, 1}, {3, 1}, {4, 2}, {8, 2}, {9, 3}, {99, 9}, {100, 10},
		{-1, 0}, {-4, 0}, {math.MinInt, 0}, {math.MinInt + 1, 0},
		{1 << 62, 1 << 31}, {1<<62 - 1, 1<<31 - 1},
		{3037000499 * 3037000499, 3037000499}, {3037000499*3037000499 - 1, 3037000498},
		{math.MaxInt, 3037000499},
	} {
		if got := fix.Root(c.x); got != c.want {
			t.Errorf("Root(%d) = %d, want %d", c.x, got, c.want)
		}
	}
}

// 1.2, 1.4
func TestRootIsTheGreatest(t *testing.T) {
	list := around()
	for i := range 2000 {
		list = append(list, i, i*i, i*i+1, i*i-1)
	}
	for _, x := range list {
		got := fix.Root(x)
		if x < 0 {
			if got != 0 {
				t.Fatalf("Root(%d) = %d, want 0", x, got)
			}
			continue
		}
		// The next one's square may exceed the greatest int, but no uint64.
		next := uint64(got + 1)
		if got < 0 || got > 3037000499 || got*got > x || next*next <= uint64(x) {
			t.Fatalf("Root(%d) = %d", x, got)
		}
	}
}

// 1.3
func TestShift(t *testing.T) {
	const edge = 1 << 40
	for _, c := range []struct{ x, n, want int }{
		{5, 1, 3}, {-5, 1, -2}, {4, 1, 2}, {-4, 1, -2}, {1, 1, 1}, {-1, 1, 0},
		{5, 2, 1}, {6, 2, 2}, {-6, 2, -1}, {-7, 2, -2},
		{5, 0, 5}, {-5, 0, -5}, {5, -3, 40}, {-5, -3, -40},
		{edge, 0, edge}, {-edge, 0, -edge}, {edge + 1, 0, 0}, {-edge - 1, 0, 0},
		{edge, 1, edge / 2}, {-edge, 1, -edge / 2}, {edge + 1, 1, 0}, {-edge - 1, 1, 0},
		{edge, 40, 1}, {-edge, 40, -1}, {edge + 1, 40, 0}, {-edge - 1, 40, 0},
		{edge / 2, 40, 1}, {edge/2 - 1, 40, 0}, {-edge / 2, 40, 0}, {-edge/2 - 1, 40, -1},
		{edge, -20, 1 << 60}, {-edge, -20, -(1 << 60)}, {edge + 1, -20, 0}, {-edge - 1, -20, 0},
		{1, -20, 1 << 20}, {1, -21, 0}, {edge, -21, 0}, {5, 41, 0}, {edge, 41, 0}, {-edge, 41, 0},
		{1, math.MaxInt, 0}, {-1, math.MaxInt, 0}, {1, math.MinInt, 0}, {-1, math.MinInt, 0},
		{math.MaxInt, 40, 0}, {math.MinInt, 40, 0}, {math.MaxInt, -20, 0}, {math.MinInt, 0, 0},
	} {
		if got := fix.Shift(c.x, c.n); got != c.want {
			t.Errorf("Shift(%d, %d) = %d, want %d", c.x, c.n, got, c.want)
		}
	}
}

// 1.3
func TestShiftIsNearest(t *testing.T) {
	const edge = 1 << 40
	for n := -70; n <= 70; n++ {
		for _, x := range around() {
			got := fix.Shift(x, n)
			right := got == 0
			switch {
			case x < -edge || x > edge || n < -20 || n > 40:
			case n > 0:
				right = nearest(got, x, n)
			default:
				right = got == x*(1<<-n)
			}
			if !right {
				t.Fatalf("Shift(%d, %d) = %d", x, n, got)
			}
		}
	}
}
