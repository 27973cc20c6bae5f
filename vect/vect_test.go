package vect_test

import (
	"math"
	"math/big"
	"slices"
	"testing"

	"spool/api"
	"spool/vect"
)

// told is what the tests hold all vectors against: how many there are of n numbers and k pulses, and how few digits their numbers have; both were worked out apart.
type told struct {
	count, bits [9]int
}

// table answers what is told of each n.
func table() [9]told {
	return [9]told{
		{[9]int{1, 0, 0, 0, 0, 0, 0, 0, 0}, [9]int{0, 0, 0, 0, 0, 0, 0, 0, 0}},
		{[9]int{1, 2, 2, 2, 2, 2, 2, 2, 2}, [9]int{0, 1, 1, 1, 1, 1, 1, 1, 1}},
		{[9]int{1, 4, 8, 12, 16, 20, 24, 28, 32}, [9]int{0, 2, 3, 4, 4, 5, 5, 5, 5}},
		{[9]int{1, 6, 18, 38, 66, 102, 146, 198, 258}, [9]int{0, 3, 5, 6, 7, 7, 8, 8, 9}},
		{[9]int{1, 8, 32, 88, 192, 360, 608, 952, 1408}, [9]int{0, 3, 5, 7, 8, 9, 10, 10, 11}},
		{[9]int{1, 10, 50, 170, 450, 1002, 1970, 3530, 5890}, [9]int{0, 4, 6, 8, 9, 10, 11, 12, 13}},
		{[9]int{1, 12, 72, 292, 912, 2364, 5336, 10836, 20256}, [9]int{0, 4, 7, 9, 10, 12, 13, 14, 15}},
		{[9]int{1, 14, 98, 462, 1666, 4942, 12642, 28814, 59906}, [9]int{0, 4, 7, 9, 11, 13, 14, 15, 16}},
		{[9]int{1, 16, 128, 688, 2816, 9424, 27008, 68464, 157184}, [9]int{0, 4, 7, 10, 12, 14, 15, 17, 18}},
	}
}

// others answers numbers that no n and no k may be, and such as a narrower number would take for one that may.
func others() []int {
	list := []int{math.MinInt, math.MinInt + 1, math.MinInt + 4, -1 << 62, -1 << 32, -1<<32 + 1, -1<<32 + 4, -1 << 31, -1 << 16, -256, -255, 64, 255, 256, 257, 260, 1 << 16, 1<<16 + 2, 1 << 31, 1<<31 - 1, 1 << 32, 1<<32 + 1, 1<<32 + 4, 1<<32 - 1, 1 << 62, math.MaxInt - 1, math.MaxInt}
	for k := 1; k < 40; k++ {
		list = append(list, -k, 8+k)
	}
	return list
}

// every calls back with each vector of n numbers and k pulses, one standing ahead of the next.
func every(n, k int, back func([]int)) {
	y := make([]int, n)
	var lay func(at, left int)
	lay = func(at, left int) {
		if at == n {
			if left == 0 {
				back(y)
			}
			return
		}
		for v := -left; v <= left; v++ {
			y[at] = v
			lay(at+1, left-max(v, -v))
		}
	}
	lay(0, k)
}

// ahead tells whether x stands ahead of y, by the chapter's words.
func ahead(x, y []int) bool {
	for i := range x {
		if x[i] != y[i] {
			return x[i] < y[i]
		}
	}
	return false
}

// sum answers the sum of y's numbers without their signs, whatever they are.
func sum(y []int) *big.Int {
	all := new(big.Int)
	for _, v := range y {
		all.Add(all, new(big.Int).Abs(big.NewInt(int64(v))))
	}
	return all
}

// mixed answers a row of numbers without an order to be seen, the same one each time.
func mixed() func() uint64 {
	x := uint64(88172645463325252)
	return func() uint64 {
		x ^= x << 13
		x ^= x >> 7
		x ^= x << 17
		return x
	}
}

// below answers a number from 0 to below n.
func below(next func() uint64, n int) int {
	return int(next() >> 20 % uint64(n))
}

// refused tests that there is no vector of n, k and i.
func refused(t *testing.T, n, k, i int) {
	t.Helper()
	if y, err := vect.Vector(n, k, i); len(y) != 0 || err != api.ErrArg {
		t.Errorf("Vector(%d, %d, %d) = %v, %d, want ErrArg alone", n, k, i, y, err)
	}
}

// 9.1: how many vectors there are, of each n and k.
func TestCount(t *testing.T) {
	for n, row := range table() {
		for k, want := range row.count {
			if got := vect.Count(n, k); got != want {
				t.Errorf("Count(%d, %d) = %d, want %d", n, k, got, want)
			}
		}
	}
}

// 9.1, 9.2: of another n, another k, or both, no vector is told of, and no digit.
func TestCountOfOthers(t *testing.T) {
	none := func(n, k int) {
		t.Helper()
		if got := vect.Count(n, k); got != 0 {
			t.Errorf("Count(%d, %d) = %d, want 0", n, k, got)
		}
		if got := vect.Bits(n, k); got != 0 {
			t.Errorf("Bits(%d, %d) = %d, want 0", n, k, got)
		}
		for _, i := range []int{-1, 0, 1, math.MinInt, math.MaxInt} {
			refused(t, n, k, i)
		}
	}
	for _, x := range others() {
		for may := range 9 {
			none(x, may)
			none(may, x)
		}
		for _, z := range others() {
			none(x, z)
		}
	}
}

// 9.1: ordinary vectors' numbers, the chapter's example the first; they were worked out apart.
func TestNumber(t *testing.T) {
	for _, x := range []struct {
		y      []int
		k, num int
	}{
		{[]int{-1, 0}, 1, 0},
		{[]int{0, -1}, 1, 1},
		{[]int{0, 1}, 1, 2},
		{[]int{1, 0}, 1, 3},
		{nil, 0, 0},
		{[]int{}, 0, 0},
		{[]int{0}, 0, 0},
		{[]int{-5}, 5, 0},
		{[]int{7}, 7, 1},
		{[]int{-8}, 8, 0},
		{[]int{8}, 8, 1},
		{[]int{-2, 0}, 2, 0},
		{[]int{-1, -1}, 2, 1},
		{[]int{-1, 1}, 2, 2},
		{[]int{0, -2}, 2, 3},
		{[]int{0, 2}, 2, 4},
		{[]int{1, -1}, 2, 5},
		{[]int{1, 1}, 2, 6},
		{[]int{2, 0}, 2, 7},
		{[]int{2, -2, 4}, 8, 181},
		{[]int{0, 4, 0, -4}, 8, 799},
		{[]int{0, 0, -3, 0, 5}, 8, 2867},
		{[]int{1, 0, -1, 2, 0, 0}, 4, 746},
		{[]int{0, 0, 0, 0, 0, 0, 0, 0}, 0, 0},
		{[]int{-8, 0, 0, 0, 0, 0, 0, 0}, 8, 0},
		{[]int{-1, -1, -1, -1, -1, -1, -1, -1}, 8, 24319},
		{[]int{0, 0, 0, 0, 0, 0, 0, -8}, 8, 78591},
		{[]int{0, 0, 0, 0, 0, 0, 0, 8}, 8, 78592},
		{[]int{1, -1, 1, -1, 1, -1, 1, -1}, 8, 116119},
		{[]int{1, 1, 1, 1, 1, 1, 1, 1}, 8, 132864},
		{[]int{3, -2, 0, 1, 0, 0, 2, 0}, 8, 150295},
		{[]int{8, 0, 0, 0, 0, 0, 0, 0}, 8, 157183},
	} {
		if got := vect.Pulses(x.y); got != x.k {
			t.Errorf("Pulses(%v) = %d, want %d", x.y, got, x.k)
		}
		if got, err := vect.Number(x.y); got != x.num || err != api.OK {
			t.Errorf("Number(%v) = %d, %d, want %d", x.y, got, err, x.num)
		}
		if got, err := vect.Vector(len(x.y), x.k, x.num); !slices.Equal(got, x.y) || err != api.OK {
			t.Errorf("Vector(%d, %d, %d) = %v, %d, want %v", len(x.y), x.k, x.num, got, err, x.y)
		}
	}
}

// 9.1, 9.2, 9.3: all vectors there are, in their order: how many, their pulses, their numbers, and back.
func TestEvery(t *testing.T) {
	for n := range 9 {
		for k := range 9 {
			var last []int
			i := 0
			every(n, k, func(y []int) {
				if last != nil && !ahead(last, y) {
					t.Fatalf("%v was told ahead of %v", last, y)
				}
				if got := vect.Pulses(y); got != k {
					t.Fatalf("Pulses(%v) = %d, want %d", y, got, k)
				}
				if got, err := vect.Number(y); got != i || err != api.OK {
					t.Fatalf("Number(%v) = %d, %d, want %d", y, got, err, i)
				}
				if got, err := vect.Vector(n, k, i); !slices.Equal(got, y) || err != api.OK {
					t.Fatalf("Vector(%d, %d, %d) = %v, %d, want %v", n, k, i, got, err, y)
				}
				last = slices.Clone(y)
				i++
			})
			if got := vect.Count(n, k); got != i {
				t.Errorf("Count(%d, %d) = %d, want %d", n, k, got, i)
			}
		}
	}
}

// 9.1: numbers that no vector has, for each n and k, also where there is one vector, or none.
func TestVectorOfOthers(t *testing.T) {
	for n, row := range table() {
		for k, count := range row.count {
			if count > 0 {
				for _, i := range []int{0, count - 1} {
					if y, err := vect.Vector(n, k, i); len(y) != n || err != api.OK {
						t.Errorf("Vector(%d, %d, %d) = %v, %d", n, k, i, y, err)
					}
				}
			}
			for _, i := range []int{count, count + 1, 2*count + 1, 1 << 32, 1<<32 + count - 1, 1 << 40, math.MaxInt - 1, math.MaxInt} {
				refused(t, n, k, i)
			}
			for _, i := range []int{-1, -2, -count - 1, -1 << 32, -1<<32 + count, math.MinInt + count, math.MinInt} {
				refused(t, n, k, i)
			}
		}
	}
}

// 9.1: a vector of no number has no pulse, and is the only one.
func TestNoNumber(t *testing.T) {
	if y, err := vect.Vector(0, 0, 0); len(y) != 0 || err != api.OK {
		t.Errorf("Vector(0, 0, 0) = %v, %d", y, err)
	}
	for k := 1; k < 10; k++ {
		refused(t, 0, k, 0)
	}
}

// notVectors answers lists that are no vectors: of too many numbers, or of too great a sum.
func notVectors() [][]int {
	list := [][]int{
		make([]int, 9),
		make([]int, 10),
		make([]int, 1000),
		{1, 0, 0, 0, 0, 0, 0, 0, 0},
		{0, 0, 0, 0, 0, 0, 0, 0, 1},
		{0, 0, 0, 0, 0, 0, 0, 0, -1},
		{1, 1, 1, 1, 1, 1, 1, 1, 0},
		{1, 1, 1, 1, 1, 1, 1, 1, 1},
		{9}, {-9}, {10}, {-10}, {16}, {17}, {256}, {257}, {-256}, {1 << 16}, {1 << 32}, {1<<32 + 1}, {-1 << 32}, {-1<<32 - 1},
		{8, 1}, {-8, 1}, {8, -1}, {-8, -1}, {1, 8}, {1, -8}, {5, -4}, {8, 8}, {8, -8}, {-8, -8},
		{2, 1, 1, 1, 1, 1, 1, 1},
		{-1, -1, -1, -1, -1, -1, -1, -2},
		{8, 8, 8, 8, 8, 8, 8, 8},
		{-8, -8, -8, -8, -8, -8, -8, -8},
		{math.MinInt}, {math.MinInt + 1}, {math.MaxInt}, {math.MaxInt - 1},
		{math.MinInt, math.MinInt}, {math.MinInt, math.MaxInt}, {math.MaxInt, math.MaxInt}, {math.MaxInt, math.MinInt},
		{math.MaxInt, math.MaxInt, 2}, {math.MaxInt, math.MaxInt, 3}, {math.MaxInt, 1}, {math.MinInt, 8}, {math.MinInt, -8}, {1, math.MaxInt},
		{math.MinInt, math.MinInt, 1}, {1, math.MinInt, math.MinInt}, {math.MinInt, 0, 1, math.MinInt},
		{1 << 62, 1 << 62, 1 << 62, 1 << 62}, {1 << 62, 1 << 62, 1 << 62, 1 << 62, 1}, {-1 << 62, 1 << 62, -1 << 62, 1 << 62, 3},
		{1 << 61, 1 << 61, 1 << 61, 1 << 61, 1 << 61, 1 << 61, 1 << 61, 1 << 61},
		{1 << 31, 1 << 31}, {1 << 31, 1 << 31, 1}, {128, 128}, {128, 128, 1}, {-128, -128},
	}
	for n := 1; n <= 8; n++ {
		for at := range n {
			for _, v := range []int{9, -9, math.MinInt, math.MaxInt, 1 << 32, -1 << 32} {
				y := make([]int, n)
				y[at] = v
				list = append(list, y)
			}
		}
	}
	return list
}

// 9.1: what is no vector has 9 pulses, and no number.
func TestNotVectors(t *testing.T) {
	for _, y := range notVectors() {
		if len(y) <= 8 && sum(y).Cmp(big.NewInt(8)) <= 0 {
			t.Fatalf("%v is a vector", y)
		}
		if got := vect.Pulses(y); got != 9 {
			t.Errorf("Pulses(%v) = %d, want 9", y, got)
		}
		if got, err := vect.Number(y); got != 0 || err != api.ErrArg {
			t.Errorf("Number(%v) = %d, %d, want ErrArg alone", y, got, err)
		}
	}
}

// 9.1: lists without an order to be seen, of up to 9 numbers, near the bound and far beyond it.
func TestPulsesOfMixed(t *testing.T) {
	next := mixed()
	edges := []int{math.MinInt, math.MaxInt, 1 << 62, -1 << 62, 1 << 32, 9, -9, 8, -8}
	seen := [10]int{}
	for range 20000 {
		y := make([]int, below(next, 10))
		for i := range y {
			if y[i] = below(next, 5) - 2; below(next, 40) == 0 {
				y[i] = edges[below(next, len(edges))]
			}
		}
		want := 9
		if s := sum(y); len(y) <= 8 && s.Cmp(big.NewInt(8)) <= 0 {
			want = int(s.Int64())
		}
		seen[want]++
		if got := vect.Pulses(y); got != want {
			t.Fatalf("Pulses(%v) = %d, want %d", y, got, want)
		}
		if i, err := vect.Number(y); (err == api.ErrArg) != (want == 9) || i < 0 || i >= max(vect.Count(len(y), want), 1) {
			t.Fatalf("Number(%v) = %d, %d", y, i, err)
		}
	}
	for k, n := range seen {
		if n < 10 {
			t.Errorf("%d lists of %d pulses", n, k)
		}
	}
}

// 9.2: how few digits all numbers have: those of the greatest one, which the one ahead of a power of 2 bears out.
func TestBits(t *testing.T) {
	for n, row := range table() {
		for k, want := range row.bits {
			got := vect.Bits(n, k)
			if got != want {
				t.Errorf("Bits(%d, %d) = %d, want %d", n, k, got, want)
			}
			count := vect.Count(n, k)
			if count > 1<<got || got > 0 && count <= 1<<(got-1) {
				t.Errorf("Bits(%d, %d) = %d, of %d numbers", n, k, got, count)
			}
		}
	}
}

// 9.3: of two vectors the one whose number is less stands ahead, whichever two they are.
func TestOrder(t *testing.T) {
	next := mixed()
	for range 4000 {
		n, k := 1+below(next, 8), below(next, 9)
		count := vect.Count(n, k)
		i, j := below(next, count), below(next, count)
		x, err := vect.Vector(n, k, i)
		y, last := vect.Vector(n, k, j)
		if err != api.OK || last != api.OK {
			t.Fatalf("Vector(%d, %d) of %d and %d: %d, %d", n, k, i, j, err, last)
		}
		if ahead(x, y) != (i < j) || ahead(y, x) != (j < i) {
			t.Fatalf("%v is %d, %v is %d", x, i, y, j)
		}
	}
}

// 9.1: a list that is handed in isn't changed, nor is its spare room, whether it is refused or not.
func TestHandedIn(t *testing.T) {
	for _, y := range append(notVectors(), nil, []int{3, -2, 0, 1}, []int{-8}, make([]int, 8), []int{1, -1, 1, -1, 1, -1, 1, -1}) {
		room := append(slices.Clone(y), 7, -7, 7)
		kept := slices.Clone(room)
		vect.Pulses(room[:len(y)])
		vect.Number(room[:len(y)])
		if !slices.Equal(room, kept) {
			t.Errorf("%v was made %v", kept, room)
		}
	}
}

// 9.1: a vector is new memory, its spare room too: what is written there no later call tells.
func TestHandedOut(t *testing.T) {
	first, _ := vect.Vector(4, 3, 20)
	second, _ := vect.Vector(4, 3, 20)
	kept := slices.Clone(first)
	spoil := second[:cap(second)]
	for i := range spoil {
		spoil[i] = 99
	}
	third, err := vect.Vector(4, 3, 20)
	if !slices.Equal(first, kept) || !slices.Equal(third, kept) || err != api.OK {
		t.Errorf("%v, then %v and %v, %d", kept, first, third, err)
	}
}

// 9.1: what was asked for and refused ahead changes no answer.
func TestOneAfterAnother(t *testing.T) {
	next := mixed()
	ks := []int{-1, 0, 3, 8, 9, math.MinInt, math.MaxInt}
	for range 500 {
		n, k := ks[below(next, len(ks))], ks[below(next, len(ks))]
		vect.Vector(n, k, below(next, 300)-100)
		vect.Number(notVectors()[below(next, 20)])
		if vect.Count(3, 3) != 38 || vect.Count(8, 8) != 157184 || vect.Bits(3, 3) != 6 {
			t.Fatalf("Count or Bits is another one behind Vector(%d, %d)", n, k)
		}
		if i, err := vect.Number([]int{2, -2, 4}); i != 181 || err != api.OK {
			t.Fatalf("Number = %d, %d", i, err)
		}
	}
}
