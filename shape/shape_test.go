package shape_test

import (
	"math"
	"math/big"
	"slices"
	"testing"

	"spool/api"
	"spool/shape"
)

// far is the size that no wave is beyond.
const far = 1 << 20

// quotient answers the square of a by q, whatever their sizes, unrounded.
func quotient(a, q int) *big.Rat {
	square := new(big.Int).Mul(big.NewInt(int64(a)), big.NewInt(int64(a)))
	return new(big.Rat).SetFrac(square, big.NewInt(int64(q)))
}

// size answers v without its sign.
func size(v int) int {
	if v < 0 {
		return -v
	}
	return v
}

// told answers the pulses of waves, word by word as the chapter tells them: a and q are summed anew for each pulse.
func told(c []int, k int) []int {
	y := make([]int, len(c))
	for range k {
		a, q := 0, 0
		for i := range c {
			a += size(c[i]) * y[i]
			q += y[i] * y[i]
		}
		first := 0
		var greatest *big.Rat
		for i := range c {
			by := quotient(a+size(c[i]), q+2*y[i]+1)
			if greatest == nil || by.Cmp(greatest) > 0 {
				first, greatest = i, by
			}
		}
		y[first]++
	}
	for i := range c {
		if c[i] < 0 {
			y[i] *= -1
		}
	}
	return y
}

// mixed answers a row of numbers without an order to be seen, the same one each time.
func mixed() func() uint64 {
	x := uint64(88172645463325252)
	return func() uint64 {
		x ^= x << 13
		x ^= x >> 7
		x ^= x << 17
		return x
	}
}

// below answers a number from 0 to below n.
func below(next func() uint64, n int) int {
	return int(next() >> 20 % uint64(n))
}

// waves answers lists of waves that pulses are found for, the same ones each time: small ones, edges and mixed ones of all sizes.
func waves() [][]int {
	var list [][]int
	for a := -12; a <= 12; a++ {
		list = append(list, []int{a})
		for b := -12; b <= 12; b++ {
			list = append(list, []int{a, b})
		}
	}
	edges := []int{0, 1, -1, far, -far, far - 1, 1 - far}
	next := mixed()
	for n := 1; n <= 8; n++ {
		for _, x := range edges {
			list = append(list, slices.Repeat([]int{x}, n))
			for at := range n {
				one := make([]int, n)
				one[at] = x
				list = append(list, one)
			}
		}
		for range 60 {
			c := make([]int, n)
			for i := range c {
				c[i] = edges[below(next, len(edges))]
			}
			list = append(list, c)
		}
		for bits := range 21 {
			for range 15 {
				c := make([]int, n)
				for i := range c {
					c[i] = below(next, 2<<bits+1) - 1<<bits
				}
				list = append(list, c)
			}
		}
	}
	return list
}

// notWaves answers lists that no pulses are found for.
func notWaves() [][]int {
	list := [][]int{nil, {}, make([]int, 9), {1, 2, 3, 4, 5, 6, 7, 8, 9}, make([]int, 10), make([]int, 16), make([]int, 256), make([]int, 264), make([]int, 1<<16+1)}
	for _, x := range beyond() {
		for n := 1; n <= 8; n++ {
			for at := range n {
				c := []int{1, -2, 3, 0, 5, -6, 7, 8}[:n:n]
				c[at] = x
				list = append(list, c)
			}
		}
		list = append(list, []int{x, x}, []int{x, -x}, []int{x, 1, 1, 1, 1, 1, 1, 1, 1})
	}
	return list
}

// beyond answers numbers that no wave is, among them those that a narrower number would take for one, and those whose sign does not fall away.
func beyond() []int {
	return []int{far + 1, -far - 1, 2 * far, -2 * far, 1 << 31, -1 << 31, 1 << 32, 1<<32 + 1, -1<<32 - 1, 1 << 40, 1 << 62, -1 << 62, math.MaxInt, math.MaxInt - 1, math.MinInt, math.MinInt + 1}
}

// otherCounts answers what no count of pulses is.
func otherCounts() []int {
	return []int{-1, -2, -8, 9, 10, 16, 255, 256, 264, -256, -248, 1 << 31, 1 << 32, 1<<32 + 8, -1 << 32, 1 << 62, -1 << 62, math.MaxInt, math.MinInt, math.MinInt + 1}
}

// find answers what Find does, which must not be refused.
func find(t *testing.T, c []int, k int) []int {
	t.Helper()
	y, err := shape.Find(c, k)
	if err != api.OK || len(y) != len(c) {
		t.Fatalf("Find(%v, %d) = %v, %d", c, k, y, err)
	}
	return y
}

// refused tests that no pulses are found.
func refused(t *testing.T, c []int, k int) {
	t.Helper()
	if y, err := shape.Find(c, k); len(y) != 0 || err != api.ErrArg {
		t.Errorf("Find of %d waves, %d pulses, = %v, %d, want ErrArg alone: %v", len(c), k, y, err, c[:min(len(c), 9)])
	}
}

// 10.1: pulses that were worked out apart, the chapter's example the first.
func TestFind(t *testing.T) {
	for _, x := range []struct {
		c    []int
		k    int
		want []int
	}{
		{[]int{3, -4}, 2, []int{1, -1}},
		{[]int{3, -4}, 0, []int{0, 0}},
		{[]int{3, -4}, 1, []int{0, -1}},
		{[]int{3, -4}, 3, []int{1, -2}},
		{[]int{3, -4}, 7, []int{3, -4}},
		{[]int{100, -50, 25, -12, 6, -3, 1, 0}, 8, []int{4, -2, 1, -1, 0, 0, 0, 0}},
		{[]int{0, 1, -3, 6, -12, 25, -50, 100}, 8, []int{0, 0, 0, 0, -1, 1, -2, 4}},
		{[]int{1, 2, 3, 4, 5, 6, 7, 8}, 8, []int{0, 0, 1, 1, 1, 1, 2, 2}},
		{[]int{-8, 7, -6, 5, -4, 3, -2, 1}, 8, []int{-2, 2, -1, 1, -1, 1, 0, 0}},
		{[]int{2, 3, 3}, 4, []int{1, 2, 1}},
		// One wave.
		{[]int{1}, 0, []int{0}},
		{[]int{1}, 8, []int{8}},
		{[]int{-7}, 3, []int{-3}},
		{[]int{0}, 8, []int{8}},
		{[]int{far}, 8, []int{8}},
		{[]int{-far}, 8, []int{-8}},
		// Waves of 0.
		{[]int{0, 0}, 8, []int{8, 0}},
		{[]int{0, 0, 0, 0, 0, 0, 0, 0}, 8, []int{8, 0, 0, 0, 0, 0, 0, 0}},
		{[]int{0, 0, 0, 0, 0, 0, 0, 0}, 0, []int{0, 0, 0, 0, 0, 0, 0, 0}},
		{[]int{0, 0, 5}, 8, []int{0, 0, 8}},
		{[]int{0, 0, -5, 0}, 3, []int{0, 0, -3, 0}},
		{[]int{0, 9, 0, 0, 0, 0, 0, -9}, 5, []int{0, 3, 0, 0, 0, 0, 0, -2}},
		// Of equal ones the first.
		{[]int{1, 1}, 1, []int{1, 0}},
		{[]int{-1, 1}, 3, []int{-2, 1}},
		{[]int{5, -5, 5}, 5, []int{2, -2, 1}},
		{[]int{4, 4, 8}, 2, []int{1, 0, 1}},
		{[]int{4, 8, 4, 8}, 3, []int{1, 1, 0, 1}},
		{[]int{1, -1, 1, -1, 1, -1, 1, -1}, 7, []int{1, -1, 1, -1, 1, -1, 1, 0}},
		{[]int{1, -1, 1, -1, 1, -1, 1, -1}, 8, []int{1, -1, 1, -1, 1, -1, 1, -1}},
		{[]int{far, -far}, 3, []int{2, -1}},
		{[]int{-far, far, far, far, far, far, far, far}, 5, []int{-1, 1, 1, 1, 1, 0, 0, 0}},
		// Quotients that are equal if they are rounded.
		{[]int{3, -4}, 8, []int{3, -5}},
		{[]int{10, 1}, 8, []int{7, 1}},
		{[]int{13, 1}, 8, []int{7, 1}},
		{[]int{2, 2, 3}, 8, []int{2, 2, 4}},
		// Quotients that are all but equal: 665857, squared, is twice 470832, squared, and 1, and 275807 is 1 less so.
		{[]int{470832, 195025}, 2, []int{1, 1}},
		{[]int{470832, 195024}, 2, []int{2, 0}},
		{[]int{195025, 80782}, 2, []int{2, 0}},
		{[]int{195025, 80783}, 2, []int{1, 1}},
		{[]int{far, far - 1}, 1, []int{1, 0}},
		{[]int{far - 1, far}, 1, []int{0, 1}},
		{[]int{far, 1}, 8, []int{8, 0}},
	} {
		if got, err := shape.Find(x.c, x.k); !slices.Equal(got, x.want) || err != api.OK {
			t.Errorf("Find(%v, %d) = %v, %d, want %v", x.c, x.k, got, err, x.want)
		}
	}
}

// 10.1: each count of pulses of many waves, against the chapter's words.
func TestFindIsAsTold(t *testing.T) {
	for _, c := range waves() {
		for k := range 9 {
			if got, want := find(t, c, k), told(c, k); !slices.Equal(got, want) {
				t.Fatalf("Find(%v, %d) = %v, want %v", c, k, got, want)
			}
		}
	}
}

// 10.1: all small waves of three and of four, 0s and equal ones among them.
func TestFindOfSmall(t *testing.T) {
	for x := range 5 * 5 * 5 * 5 {
		c := []int{x%5 - 2, x/5%5 - 2, x/25%5 - 2, x/125 - 2}
		for n := 3; n <= 4; n++ {
			for k := range 9 {
				if got, want := find(t, c[:n], k), told(c[:n], k); !slices.Equal(got, want) {
					t.Fatalf("Find(%v, %d) = %v, want %v", c[:n], k, got, want)
				}
			}
		}
	}
}

// 10.1: a pulse more is found beside those that were found already.
func TestFindOneMore(t *testing.T) {
	for _, c := range waves() {
		less := find(t, c, 0)
		for k := 1; k < 9; k++ {
			y := find(t, c, k)
			more := 0
			for i := range y {
				d := size(y[i]) - size(less[i])
				if d < 0 {
					t.Fatalf("Find(%v, %d) = %v, behind %v", c, k, y, less)
				}
				more += d
			}
			if more != 1 {
				t.Fatalf("Find(%v, %d) = %v, behind %v", c, k, y, less)
			}
			less = y
		}
	}
}

// 10.1: of too many waves, none, or one beyond its edges, nothing is found, whatever the count.
func TestFindOfNotWaves(t *testing.T) {
	for _, c := range notWaves() {
		for k := range 9 {
			refused(t, c, k)
		}
		refused(t, c, -1)
		refused(t, c, 9)
	}
}

// 10.1: a count that may not be, of waves that may.
func TestFindOfOtherCounts(t *testing.T) {
	for _, k := range otherCounts() {
		for _, c := range [][]int{{3, -4}, {1}, {0}, {far, -far}, make([]int, 8), {1, 2, 3, 4, 5, 6, 7, 8}} {
			refused(t, c, k)
		}
	}
}

// 10.1: an edge in each place, beside others.
func TestFindOfEdges(t *testing.T) {
	for n := 1; n <= 8; n++ {
		for at := range n {
			for _, x := range []int{far, -far, far - 1, 1 - far} {
				c := []int{1, -2, 3, 0, 5, -6, 7, 8}[:n:n]
				c[at] = x
				want := make([]int, n)
				if want[at] = 8; x < 0 {
					want[at] = -8
				}
				if got := find(t, c, 8); !slices.Equal(got, want) {
					t.Errorf("Find(%v, 8) = %v, want %v", c, got, want)
				}
			}
		}
	}
}

// 10.2
func TestGain(t *testing.T) {
	for _, x := range []struct {
		c, y []int
		a, q int
	}{
		{[]int{3, -4}, []int{1, -1}, 7, 2},
		{[]int{3, -4}, []int{1, -2}, 11, 5},
		{[]int{3, -4}, []int{0, 0}, 0, 0},
		{[]int{7}, []int{1}, 7, 1},
		{[]int{-7}, []int{-8}, 56, 64},
		{[]int{0}, []int{8}, 0, 64},
		{[]int{0, 0, 0}, []int{1, -2, 3}, 0, 14},
		{[]int{100, -50, 25, -12, 6, -3, 1, 0}, []int{4, -2, 1, -1, 0, 0, 0, 0}, 537, 22},
		// Against the wave's sign.
		{[]int{3, -4}, []int{-1, 1}, -7, 2},
		{[]int{3, -4}, []int{-1, -1}, 1, 2},
		{[]int{3, -4}, []int{1, 1}, -1, 2},
		{[]int{3, -4}, []int{4, 3}, 0, 25},
		{[]int{far}, []int{-8}, -8 * far, 64},
		// More than 8 pulses in all.
		{[]int{3, -4}, []int{8, -8}, 56, 128},
		{[]int{1, 2, 3, 4, 5, 6, 7, 8}, []int{2, 1, 1, 1, 1, 1, 1, 1}, 37, 11},
		{[]int{far, far, far, far, -far, -far, -far, -far}, []int{8, 8, 8, 8, -8, -8, -8, -8}, 64 * far, 512},
		{[]int{far, far, far, far, -far, -far, -far, -far}, []int{-8, -8, -8, -8, 8, 8, 8, 8}, -64 * far, 512},
	} {
		if a, q := shape.Gain(x.c, x.y); a != x.a || q != x.q {
			t.Errorf("Gain(%v, %v) = %d, %d, want %d, %d", x.c, x.y, a, q, x.a, x.q)
		}
	}
}

// 10.2: pulses of all sizes, with their waves' signs and against them: sizes are multiplied, and each product has the signs.
func TestGainIsAsTold(t *testing.T) {
	next := mixed()
	for _, c := range waves() {
		for range 20 {
			y := make([]int, len(c))
			a, q := 0, 0
			for i := range y {
				y[i] = below(next, 17) - 8
				product := size(c[i]) * size(y[i])
				if (c[i] < 0) != (y[i] < 0) {
					product = -product
				}
				a += product
				q += size(y[i]) * size(y[i])
			}
			if gotA, gotQ := shape.Gain(c, y); gotA != a || gotQ != q {
				t.Fatalf("Gain(%v, %v) = %d, %d, want %d, %d", c, y, gotA, gotQ, a, q)
			}
		}
	}
}

// noGain tests that waves and pulses have no gain.
func noGain(t *testing.T, c, y []int) {
	t.Helper()
	if a, q := shape.Gain(c, y); a != 0 || q != 0 {
		t.Errorf("Gain of %d waves and %d pulses = %d, %d, want 0, 0: %v, %v", len(c), len(y), a, q, c[:min(len(c), 9)], y[:min(len(y), 9)])
	}
}

// 10.2: of waves that Find refuses there is no gain.
func TestGainOfNotWaves(t *testing.T) {
	for _, c := range notWaves() {
		y := make([]int, len(c))
		noGain(t, c, y)
		for i := range y {
			y[i] = 1
		}
		noGain(t, c, y)
	}
}

// 10.2: lists of unlike lengths have no gain.
func TestGainOfUnlikeLengths(t *testing.T) {
	for n := range 20 {
		for m := range 20 {
			if n != m {
				noGain(t, slices.Repeat([]int{5}, n), slices.Repeat([]int{1}, m))
			}
		}
	}
	noGain(t, []int{5}, nil)
	noGain(t, nil, []int{1})
	noGain(t, []int{5}, slices.Repeat([]int{1}, 257))
}

// 10.2: a pulse beyond its edges, in each place; beside it, each edge itself is one.
func TestGainOfOtherPulses(t *testing.T) {
	others := append(beyond(), 9, -9, 10, -10, 16, 255, 256, 257, -256, -257, 1<<16+1)
	for n := 1; n <= 8; n++ {
		for at := range n {
			c := []int{1, -2, 3, 4, 5, -6, 7, 8}[:n:n]
			for _, x := range others {
				y := slices.Repeat([]int{1}, n)
				y[at] = x
				noGain(t, c, y)
			}
			for _, x := range []int{8, -8} {
				y := make([]int, n)
				y[at] = x
				if a, q := shape.Gain(c, y); a != c[at]*x || q != 64 {
					t.Errorf("Gain(%v, %v) = %d, %d", c, y, a, q)
				}
			}
		}
	}
}

// 10.3: what is found has k pulses, none against its wave's sign, and a gain that isn't below 0.
func TestFoundHasItsPulses(t *testing.T) {
	for _, c := range waves() {
		for k := range 9 {
			y := find(t, c, k)
			sum := 0
			for i := range y {
				sum += size(y[i])
				if c[i] < 0 && y[i] > 0 || c[i] >= 0 && y[i] < 0 {
					t.Fatalf("Find(%v, %d) = %v: %d has another sign than %d", c, k, y, y[i], c[i])
				}
			}
			if sum != k {
				t.Fatalf("Find(%v, %d) = %v: %d pulses", c, k, y, sum)
			}
			if a, q := shape.Gain(c, y); a < 0 || q < k {
				t.Fatalf("Gain(%v, %v) = %d, %d", c, y, a, q)
			}
		}
	}
}

// 10.3: waves all twice as great have the same pulses.
func TestFoundOfTwice(t *testing.T) {
	tried := 0
	for _, c := range waves() {
		twice := make([]int, len(c))
		for i := range c {
			twice[i] = 2 * c[i]
		}
		if slices.Max(twice) > far || slices.Min(twice) < -far {
			continue
		}
		tried++
		for k := range 9 {
			if once, got := find(t, c, k), find(t, twice, k); !slices.Equal(got, once) {
				t.Fatalf("Find(%v, %d) = %v, but Find(%v) = %v", twice, k, got, c, once)
			}
		}
	}
	if tried < 1000 {
		t.Errorf("only %d waves were doubled", tried)
	}
}

// 10.3: waves with other signs have the same pulses, but for these; all of the signs that up to 8 waves may have are tried.
func TestFoundOfOtherSigns(t *testing.T) {
	for at, c := range waves() {
		k := at % 9
		y := find(t, c, k)
		for signs := range 1 << len(c) {
			other, want := slices.Clone(c), slices.Clone(y)
			for i := range c {
				if signs>>i&1 == 1 {
					other[i] = -c[i]
				}
				// The pulses of a wave of 0 have no sign, even where it was to be turned.
				if want[i] = size(y[i]); other[i] < 0 {
					want[i] = -want[i]
				}
			}
			if got := find(t, other, k); !slices.Equal(got, want) {
				t.Fatalf("Find(%v, %d) = %v, but Find(%v) = %v", other, k, got, c, y)
			}
		}
	}
}

// 10.1, 10.2: lists that are handed in aren't changed, nor is their spare room, whether they are refused or not.
func TestHandedIn(t *testing.T) {
	for _, c := range append(notWaves(), []int{3, -4}, []int{0}, []int{1, -2, 3, -4, 5, -6, 7, -8}) {
		waveRoom := append(slices.Clone(c), 7, -7, 7)
		pulseRoom := append(slices.Repeat([]int{-1}, len(c)), 5, -5, 5)
		wavesBefore, pulsesBefore := slices.Clone(waveRoom), slices.Clone(pulseRoom)
		shape.Find(waveRoom[:len(c)], 3)
		shape.Find(waveRoom[:len(c)], 9)
		shape.Gain(waveRoom[:len(c)], pulseRoom[:len(c)])
		shape.Gain(waveRoom[:len(c)], pulseRoom[:len(c)+1])
		if !slices.Equal(waveRoom, wavesBefore) || !slices.Equal(pulseRoom, pulsesBefore) {
			t.Errorf("%v and %v were made %v and %v", wavesBefore, pulsesBefore, waveRoom, pulseRoom)
		}
	}
}

// spoiled writes over a list, spare room included.
func spoiled(list []int) {
	list = list[:cap(list)]
	for i := range list {
		list[i] = -99
	}
}

// 10.1: pulses are new memory, spare room included: they share none with the waves, nor with other pulses.
func TestHandedOut(t *testing.T) {
	for _, c := range [][]int{{3, -4}, {0}, {5}, {-5}, {0, 0, 0}, {1, -2, 3, -4, 5, -6, 7, -8}} {
		for k := range 9 {
			room := append(slices.Clone(c), 7, -7, 7)
			before := slices.Clone(room)
			first, second := find(t, room[:len(c)], k), find(t, room[:len(c)], k)
			want := slices.Clone(second)
			spoiled(first)
			if !slices.Equal(room, before) || !slices.Equal(second, want) {
				t.Errorf("what is written to pulses is in the waves, %v, or in other pulses, %v", room, second)
			}
			spoiled(room)
			if !slices.Equal(second, want) {
				t.Errorf("what is written to waves is in their pulses, %v", second)
			}
			if again := find(t, c, k); !slices.Equal(again, want) {
				t.Errorf("Find(%v, %d), asked again, = %v, at first %v", c, k, again, want)
			}
		}
	}
}

// 10.1, 10.2: what was asked for and refused ahead changes no answer.
func TestOneAfterAnother(t *testing.T) {
	list, others := waves(), notWaves()
	next := mixed()
	for range 500 {
		c := list[below(next, len(list))]
		shape.Find(c, below(next, 12)-2)
		shape.Find(others[below(next, len(others))], 8)
		shape.Gain(c, others[below(next, len(others))])
		if y := find(t, []int{3, -4}, 3); !slices.Equal(y, []int{1, -2}) {
			t.Fatalf("behind Find of %v, Find(3 -4, 3) = %v", c, y)
		}
		if a, q := shape.Gain([]int{3, -4}, []int{1, -2}); a != 11 || q != 5 {
			t.Fatalf("behind Gain of %v, Gain(3 -4, 1 -2) = %d, %d", c, a, q)
		}
	}
}
