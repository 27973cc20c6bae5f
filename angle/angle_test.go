package angle_test

import (
	"math"
	"math/big"
	"testing"

	"spool/angle"
)

// first holds the cosines of 0 to 32, worked out apart from the program.
var first = [33]int{
	32768, 32729, 32610, 32413, 32138, 31786, 31357, 30853, 30274, 29622, 28899,
	28106, 27246, 26320, 25330, 24279, 23170, 22006, 20788, 19520, 18205, 16846,
	15447, 14010, 12540, 11039, 9512, 7962, 6393, 4808, 3212, 1608, 0,
}

// quotient answers a product of numbers, by another one, rounded down, whatever its size.
func quotient(by int, factors ...int) int {
	p := big.NewInt(1)
	for _, f := range factors {
		p.Mul(p, big.NewInt(int64(f)))
	}
	// Div rounds down, as by is above 0.
	return int(p.Div(p, big.NewInt(int64(by))).Int64())
}

// small answers the cosine and the sine of u from 0 to 16, step by step, as the chapter's head tells them.
func small(u int) (cos, sin int) {
	const one = 1 << 30
	x := quotient(2, u, 105414357)
	y := quotient(one, x, x)
	two := quotient(one, y, y)
	three := quotient(one, two, y)
	cos = one
	cos -= quotient(2, y)
	cos += quotient(24*one, y, y)
	cos -= quotient(720*one, two, y)
	cos += quotient(40320*one, two, two)
	sin = x
	sin -= quotient(6*one, x, y)
	sin += quotient(120*one, x, two)
	sin -= quotient(5040*one, x, three)
	return quotient(1<<16, 2*cos+1<<15), quotient(1<<16, 2*sin+1<<15)
}

// told answers the cosine of u by the chapter's cases, one by one.
func told(u int) int {
	switch {
	case 0 <= u && u <= 16:
		cos, _ := small(u)
		return cos
	case 17 <= u && u <= 32:
		_, sin := small(32 - u)
		return sin
	case 33 <= u && u <= 64:
		return -told(64 - u)
	case 65 <= u && u <= 127:
		return told(128 - u)
	default:
		return told((u%128 + 128) % 128)
	}
}

// far answers angles below 0 and beyond 127, next to the powers of two of both signs, and at the ends of the ints.
func far() []int {
	var list []int
	for u := -1000; u <= 1000; u++ {
		list = append(list, u)
	}
	for d := range 300 {
		list = append(list, math.MinInt+d, math.MaxInt-d)
	}
	for i := range 63 {
		for d := -3; d <= 3; d++ {
			list = append(list, 1<<i+d, -(1<<i)+d, 5<<i+d, -(5<<i)+d)
		}
	}
	return list
}

// rest answers the rest of u and more by 128, from 0 on; as their sum may be no int, it is made of numbers of any size.
func rest(u, more int) int {
	x := new(big.Int).Add(big.NewInt(int64(u)), big.NewInt(int64(more)))
	return int(x.Mod(x, big.NewInt(128)).Int64())
}

// 3.1
func TestCos(t *testing.T) {
	for _, c := range []struct{ u, want int }{
		{0, 32768}, {32, 0}, // the chapter's example
		{1, 32729}, {15, 24279}, {16, 23170}, {17, 22006}, {31, 1608},
		{33, -1608}, {47, -22006}, {48, -23170}, {49, -24279}, {63, -32729},
		{64, -32768}, {65, -32729}, {80, -23170}, {95, -1608}, {96, 0}, {97, 1608},
		{112, 23170}, {127, 32729}, {128, 32768}, {129, 32729}, {160, 0}, {192, -32768}, {256, 32768},
		{-1, 32729}, {-16, 23170}, {-17, 22006}, {-32, 0}, {-33, -1608}, {-64, -32768}, {-65, -32729},
		{-127, 32729}, {-128, 32768}, {-129, 32729}, {-192, -32768},
		{1 << 40, 32768}, {1<<40 + 64, -32768}, {-(1 << 40) - 64, -32768}, {-(1 << 40) - 1, 32729},
		{math.MaxInt, 32729}, {math.MaxInt - 63, -32768}, {math.MaxInt - 127, 32768},
		{math.MinInt, 32768}, {math.MinInt + 1, 32729}, {math.MinInt + 33, -1608}, {math.MinInt + 64, -32768},
	} {
		if got := angle.Cos(c.u); got != c.want {
			t.Errorf("Cos(%d) = %d, want %d", c.u, got, c.want)
		}
	}
}

// 3.1
func TestSin(t *testing.T) {
	for _, c := range []struct{ u, want int }{
		{0, 0}, {1, 1608}, {15, 22006}, {16, 23170}, {17, 24279}, {31, 32729},
		{32, 32768}, {33, 32729}, {48, 23170}, {63, 1608}, {64, 0}, {65, -1608},
		{95, -32729}, {96, -32768}, {97, -32729}, {127, -1608}, {128, 0}, {129, 1608}, {160, 32768},
		{-1, -1608}, {-16, -23170}, {-31, -32729}, {-32, -32768}, {-64, 0}, {-96, 32768}, {-128, 0}, {-129, -1608},
		{1 << 40, 0}, {1<<40 + 32, 32768}, {-(1 << 40) - 32, -32768}, {-(1 << 40) - 1, -1608},
		{math.MaxInt, -1608}, {math.MaxInt - 31, -32768}, {math.MaxInt - 95, 32768},
		{math.MinInt, 0}, {math.MinInt + 1, 1608}, {math.MinInt + 31, 32729}, {math.MinInt + 32, 32768},
	} {
		if got := angle.Sin(c.u); got != c.want {
			t.Errorf("Sin(%d) = %d, want %d", c.u, got, c.want)
		}
	}
}

// 3.1
func TestCosIsAsDefined(t *testing.T) {
	for u, want := range first {
		if got := told(u); got != want {
			t.Errorf("the definition of %d is %d, want %d", u, got, want)
		}
	}
	for u := range 128 {
		if got, want := angle.Cos(u), told(u); got != want {
			t.Errorf("Cos(%d) = %d, want %d", u, got, want)
		}
		if got, want := angle.Sin(u), told(u-32); got != want {
			t.Errorf("Sin(%d) = %d, want %d", u, got, want)
		}
	}
}

// 3.1: half of the last digit is all that a cosine may be away from the truth.
func TestCosIsTrue(t *testing.T) {
	for u := range 128 {
		if got, want := float64(angle.Cos(u)), 32768*math.Cos(float64(u)*math.Pi/64); math.Abs(got-want) > 0.51 {
			t.Errorf("Cos(%d) = %v, want about %v", u, got, want)
		}
		if got, want := float64(angle.Sin(u)), 32768*math.Sin(float64(u)*math.Pi/64); math.Abs(got-want) > 0.51 {
			t.Errorf("Sin(%d) = %v, want about %v", u, got, want)
		}
	}
}

// 3.1
func TestFarAngles(t *testing.T) {
	for _, u := range far() {
		if got, want := angle.Cos(u), told(rest(u, 0)); got != want {
			t.Fatalf("Cos(%d) = %d, want %d", u, got, want)
		}
		if got, want := angle.Sin(u), told(rest(u, -32)); got != want {
			t.Fatalf("Sin(%d) = %d, want %d", u, got, want)
		}
	}
}

// 3.1
func TestTable(t *testing.T) {
	table := angle.Table()
	if len(table) != 128 {
		t.Fatalf("Table has %d cosines", len(table))
	}
	for u, got := range table {
		if want := told(u); got != want {
			t.Errorf("Table()[%d] = %d, want %d", u, got, want)
		}
	}
	for u, want := range map[int]int{0: 32768, 1: 32729, 63: -32729, 64: -32768, 65: -32729, 126: 32610, 127: 32729} {
		if table[u] != want {
			t.Errorf("Table()[%d] = %d, want %d", u, table[u], want)
		}
	}
}

// 3.2
func TestWindow(t *testing.T) {
	window := angle.Window()
	if len(window) != 32 {
		t.Fatalf("Window has %d sines", len(window))
	}
	for n, got := range window {
		if want := told(2*n + 1 - 32); got != want {
			t.Errorf("Window()[%d] = %d, want %d", n, got, want)
		}
	}
	for n, want := range map[int]int{0: 1608, 1: 4808, 14: 32413, 15: 32729, 16: 32729, 17: 32413, 30: 4808, 31: 1608} {
		if window[n] != want {
			t.Errorf("Window()[%d] = %d, want %d", n, window[n], want)
		}
	}
}

// 3.1, 3.2: what an answer becomes in its owner's hands, no later one shows.
func TestAnswersAreNew(t *testing.T) {
	table, window := angle.Table(), angle.Window()
	for u := range table {
		table[u] = -1
	}
	for n := range window {
		window[n] = -1
	}
	for u, got := range angle.Table() {
		if got != told(u) {
			t.Fatalf("Table()[%d] = %d after a change", u, got)
		}
	}
	for n, got := range angle.Window() {
		if got != told(2*n+1-32) {
			t.Fatalf("Window()[%d] = %d after a change", n, got)
		}
	}
}

// 3.3
func TestHalfRoundIsTheNegative(t *testing.T) {
	for _, u := range far() {
		if u > math.MaxInt-64 {
			continue // there is no such int as u + 64
		}
		if got, want := angle.Cos(u+64), -angle.Cos(u); got != want {
			t.Fatalf("Cos(%d) = %d, want %d", u+64, got, want)
		}
	}
}

// 3.3
func TestSquares(t *testing.T) {
	for _, u := range far() {
		cos, sin := angle.Cos(u), angle.Sin(u)
		if off := cos*cos + sin*sin - 1<<30; off < -(1<<18) || off > 1<<18 {
			t.Fatalf("the squares of %d make 2^30 and %d", u, off)
		}
	}
}

// 3.3
func TestCosinesFall(t *testing.T) {
	for u := range 64 {
		if here, next := angle.Cos(u), angle.Cos(u+1); next >= here {
			t.Errorf("Cos(%d) = %d, Cos(%d) = %d", u, here, u+1, next)
		}
	}
}
