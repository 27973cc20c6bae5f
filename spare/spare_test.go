package spare_test

import (
	"math"
	"math/big"
	"testing"

	"spool/api"
	"spool/level"
	"spool/spare"
	"spool/vect"
)

// enough is what eight pulses of each band cost.
const enough = 39

// far is the number of bits beyond which nothing is given.
const far = 1 << 20

// prices are what so many pulses cost, of bands of 2, 2, 4 and 8 waves, worked out apart.
var prices = [4][9]int{
	{0, 2, 3, 4, 4, 5, 5, 5, 5},
	{0, 2, 3, 4, 4, 5, 5, 5, 5},
	{0, 3, 5, 7, 8, 9, 10, 10, 11},
	{0, 4, 7, 10, 12, 14, 15, 17, 18},
}

// vectors answers how many vectors of n numbers have k pulses, told by what the first number may be.
func vectors(n, k int) *big.Int {
	if n == 0 {
		if k == 0 {
			return big.NewInt(1)
		}
		return big.NewInt(0)
	}
	sum := new(big.Int)
	for first := -k; first <= k; first++ {
		left := k - first
		if first < 0 {
			left = k + first
		}
		sum.Add(sum, vectors(n-1, left))
	}
	return sum
}

// can tells whether a band can have one more, word by word as the chapter tells it.
func can(levels, k [4]int, b, left int) bool {
	return levels[b] != 0 && k[b] < 8 && prices[b][k[b]+1]-prices[b][k[b]] <= left
}

// told answers what each band has, word by word as the chapter tells it.
func told(levels [4]int, bits int) [4]int {
	var k [4]int
	for _, l := range levels {
		if l < 0 || l > 20 {
			return k
		}
	}
	if bits < 0 || bits > far {
		return k
	}
	for left := bits; ; {
		first := -1
		for b := range k {
			if can(levels, k, b, left) && (first < 0 || 2*levels[b]-3*k[b] > 2*levels[first]-3*k[first]) {
				first = b
			}
		}
		if first < 0 {
			return k
		}
		left -= prices[first][k[first]+1] - prices[first][k[first]]
		k[first]++
	}
}

// toldCost answers what all bands' pulses cost; of what is no count there is no vector, and no bits.
func toldCost(k [4]int) int {
	sum := 0
	for b, n := range k {
		if n >= 0 && n <= 8 {
			sum += prices[b][n]
		}
	}
	return sum
}

// toldRoom answers the bits for pulses, by numbers of any size.
func toldRoom(size, used int) int {
	if size < 10 || size > 32 || used < 0 {
		return 0
	}
	room := big.NewInt(int64(8*size - 40))
	if room.Sub(room, big.NewInt(int64(used))); room.Sign() < 0 {
		return 0
	}
	return int(room.Int64())
}

// mixed answers a row of numbers without an order to be seen, the same one each time.
func mixed() func() uint64 {
	x := uint64(88172645463325252)
	return func() uint64 {
		x ^= x << 13
		x ^= x >> 7
		x ^= x << 17
		return x
	}
}

// below answers a number from 0 to below n.
func below(next func() uint64, n int) int {
	return int(next() >> 20 % uint64(n))
}

// rows answers levels, the same ones each time: all of few, one band's alone, and mixed ones.
func rows() [][4]int {
	var list [][4]int
	few := []int{0, 1, 20}
	for x := range 3 * 3 * 3 * 3 {
		list = append(list, [4]int{few[x%3], few[x/3%3], few[x/9%3], few[x/27]})
	}
	next := mixed()
	for b := range 4 {
		for l := range 21 {
			var one [4]int
			one[b] = l
			list = append(list, one)
		}
	}
	for range 60 {
		near := 1 + below(next, 18)
		list = append(list, [4]int{below(next, 21), below(next, 21), below(next, 21), below(next, 21)},
			[4]int{near + below(next, 3), near + below(next, 3), near + below(next, 3), near + below(next, 3)})
	}
	return list
}

// noLevels answers numbers that are no level, among them those that a narrower number would take for one.
func noLevels() []int {
	return []int{-1, 21, -2, 22, -20, 40, 255, 256, 265, -256, -247, 1 << 31, -1 << 31, 1 << 32, 1<<32 + 9, -1<<32 + 9, 1 << 62, 1<<63 - 1, math.MinInt, math.MinInt + 1, math.MinInt + 9}
}

// noBits answers numbers of bits that nothing is given of.
func noBits() []int {
	return []int{-1, -2, -39, -40, -1 << 20, far + 1, far + 2, 2 * far, 1 << 31, -1 << 31, 1 << 32, 1<<32 + 39, -1<<32 + 39, 1 << 62, -1 << 62, math.MaxInt, math.MaxInt - 1, math.MinInt, math.MinInt + 1, math.MinInt + 39}
}

// noCounts answers numbers that are no count of pulses.
func noCounts() []int {
	return []int{-1, 9, -2, 10, -8, 16, 255, 256, 257, 264, -256, -248, 1 << 31, -1 << 31, 1 << 32, 1<<32 + 8, -1<<32 + 8, 1 << 62, math.MaxInt, math.MaxInt - 1, math.MinInt, math.MinInt + 1, math.MinInt + 8}
}

// but answers levels, or counts, with x in one place.
func but(row [4]int, at, x int) [4]int {
	row[at] = x
	return row
}

// 11.1: the prices of the tests are the lengths of the greatest numbers, as chapter 9 tells them.
func TestPricesAreAsTold(t *testing.T) {
	for b, n := range []int{2, 2, 4, 8} {
		for k := range 9 {
			greatest := vectors(n, k)
			if got := greatest.Sub(greatest, big.NewInt(1)).BitLen(); got != prices[b][k] {
				t.Errorf("%d pulses of band %d cost %d, want %d", k, b, prices[b][k], got)
			}
			if got := vect.Bits(level.Size(b), k); got != prices[b][k] {
				t.Errorf("Bits of band %d and %d pulses = %d, want %d", b, k, got, prices[b][k])
			}
		}
	}
}

// 11.1: what was worked out apart, the chapter's example the first.
func TestPulses(t *testing.T) {
	for _, x := range []struct {
		levels [4]int
		bits   int
		want   [4]int
	}{
		{[4]int{9}, 2, [4]int{1}},
		// One band, by its bits.
		{[4]int{9}, 0, [4]int{}},
		{[4]int{9}, 1, [4]int{}},
		{[4]int{9}, 3, [4]int{2}},
		{[4]int{9}, 4, [4]int{4}}, // the fourth pulse costs nothing
		{[4]int{9}, 5, [4]int{8}},
		{[4]int{9}, 6, [4]int{8}},
		{[4]int{0, 9}, 1, [4]int{}},
		{[4]int{0, 9}, 2, [4]int{0, 1}},
		{[4]int{0, 9}, 5, [4]int{0, 8}},
		{[4]int{0, 0, 6}, 2, [4]int{}},
		{[4]int{0, 0, 6}, 3, [4]int{0, 0, 1}},
		{[4]int{0, 0, 6}, 6, [4]int{0, 0, 2}},
		{[4]int{0, 0, 6}, 9, [4]int{0, 0, 5}},
		{[4]int{0, 0, 6}, 10, [4]int{0, 0, 7}},
		{[4]int{0, 0, 6}, 11, [4]int{0, 0, 8}},
		{[4]int{0, 0, 0, 6}, 3, [4]int{}},
		{[4]int{0, 0, 0, 6}, 4, [4]int{0, 0, 0, 1}},
		{[4]int{0, 0, 0, 6}, 17, [4]int{0, 0, 0, 7}},
		{[4]int{0, 0, 0, 6}, 18, [4]int{0, 0, 0, 8}},
		{[4]int{0, 0, 0, 6}, 1000, [4]int{0, 0, 0, 8}},
		// Equal levels: the first goes first, and then the others, until a pulse costs nothing.
		{[4]int{9, 9, 9, 9}, 1, [4]int{}},
		{[4]int{9, 9, 9, 9}, 2, [4]int{1}},
		{[4]int{9, 9, 9, 9}, 3, [4]int{2}},
		{[4]int{9, 9, 9, 9}, 4, [4]int{1, 1}},
		{[4]int{9, 9, 9, 9}, 5, [4]int{2, 1}},
		{[4]int{9, 9, 9, 9}, 7, [4]int{1, 1, 1}},
		{[4]int{9, 9, 9, 9}, 10, [4]int{4, 2, 1}},
		{[4]int{9, 9, 9, 9}, 11, [4]int{1, 1, 1, 1}},
		{[4]int{9, 9, 9, 9}, 18, [4]int{2, 2, 2, 2}},
		{[4]int{9, 9, 9, 9}, 25, [4]int{4, 4, 3, 3}},
		{[4]int{9, 9, 9, 9}, 38, [4]int{8, 8, 8, 7}},
		{[4]int{9, 9, 9, 9}, 39, [4]int{8, 8, 8, 8}},
		{[4]int{0, 9, 9, 0}, 2, [4]int{0, 1}},
		{[4]int{0, 0, 9, 9}, 4, [4]int{0, 0, 1}},
		{[4]int{0, 0, 9, 9}, 6, [4]int{0, 0, 2}},
		{[4]int{0, 0, 9, 9}, 7, [4]int{0, 0, 1, 1}},
		// Of equal wishes, not of equal levels: 2 times 4 less 3 times 2, and 2 times 1.
		{[4]int{1, 4}, 5, [4]int{1, 2}},
		{[4]int{4, 1}, 5, [4]int{8}},
		{[4]int{4, 1, 1}, 8, [4]int{8, 2}},
		// So few bits that the greatest level has none, and a lesser one, which costs less, has one more.
		{[4]int{1, 1, 1, 20}, 3, [4]int{2}},
		{[4]int{1, 1, 1, 20}, 4, [4]int{0, 0, 0, 1}},
		{[4]int{1, 1, 1, 20}, 6, [4]int{1, 0, 0, 1}},
		{[4]int{1, 1, 1, 20}, 20, [4]int{1, 0, 0, 8}},
		{[4]int{1, 1, 1, 20}, 23, [4]int{2, 1, 0, 8}},
		{[4]int{0, 1, 0, 20}, 3, [4]int{0, 2}},
		{[4]int{0, 0, 1, 20}, 3, [4]int{0, 0, 1}},
		{[4]int{0, 1, 20, 0}, 2, [4]int{0, 1}},
		{[4]int{0, 0, 20, 19}, 5, [4]int{0, 0, 2}},
		{[4]int{0, 0, 20, 19}, 12, [4]int{0, 0, 2, 2}},
		{[4]int{0, 0, 20, 19}, 16, [4]int{0, 0, 5, 2}},
		{[4]int{3, 0, 8, 12}, 20, [4]int{0, 0, 2, 6}},
		{[4]int{3, 0, 8, 12}, 28, [4]int{1, 0, 5, 7}},
		{[4]int{3, 0, 8, 12}, 36, [4]int{8, 0, 8, 8}},
		{[4]int{5, 4, 3, 2}, 18, [4]int{8, 4, 2, 1}},
		// None is loud.
		{[4]int{}, 0, [4]int{}},
		{[4]int{}, 1000, [4]int{}},
		{[4]int{}, far, [4]int{}},
		// The ends of levels and bits.
		{[4]int{1, 1, 1, 1}, far, [4]int{8, 8, 8, 8}},
		{[4]int{20, 20, 20, 20}, far, [4]int{8, 8, 8, 8}},
		{[4]int{20, 20, 20, 20}, far + 1, [4]int{}},
		{[4]int{20, 20, 20, 20}, -1, [4]int{}},
		{[4]int{20, 20, 20, 20}, 0, [4]int{}},
		{[4]int{20, 1, 0, 21}, 1000, [4]int{}},
		{[4]int{20, 1, 0, -1}, 1000, [4]int{}},
	} {
		if got := spare.Pulses(x.levels, x.bits); got != x.want {
			t.Errorf("Pulses(%v, %d) = %v, want %v", x.levels, x.bits, got, x.want)
		}
	}
}

// 11.1: many levels, of each number of bits that makes a difference, and of the ends, against the chapter's words.
func TestPulsesAreAsTold(t *testing.T) {
	for _, levels := range rows() {
		for bits := -1; bits <= enough+1; bits++ {
			if got, want := spare.Pulses(levels, bits), told(levels, bits); got != want {
				t.Fatalf("Pulses(%v, %d) = %v, want %v", levels, bits, got, want)
			}
		}
		if got, want := spare.Pulses(levels, far), told(levels, far); got != want {
			t.Fatalf("Pulses(%v, %d) = %v, want %v", levels, far, got, want)
		}
	}
}

// 11.1: a level that may not be, in each band, beside others that may be.
func TestPulsesOfOtherLevels(t *testing.T) {
	for _, x := range noLevels() {
		for b := range api.Bands {
			for _, levels := range [][4]int{{}, {1, 1, 1, 1}, {9, 20, 0, 5}, {x, x, x, x}} {
				for _, bits := range []int{0, 2, enough, far} {
					if got := spare.Pulses(but(levels, b, x), bits); got != [4]int{} {
						t.Errorf("Pulses(%v, %d) = %v, want none", but(levels, b, x), bits, got)
					}
				}
			}
		}
	}
	for _, x := range []int{1, 20} {
		for b := range api.Bands {
			if got, want := spare.Pulses(but([4]int{}, b, x), far), but([4]int{}, b, 8); got != want {
				t.Errorf("Pulses(%v, %d) = %v, want %v", but([4]int{}, b, x), far, got, want)
			}
		}
	}
}

// 11.1: bits that may not be.
func TestPulsesOfOtherBits(t *testing.T) {
	for _, bits := range noBits() {
		for _, levels := range [][4]int{{}, {9}, {1, 1, 1, 1}, {20, 20, 20, 20}, {21, 1, 1, 1}, {-1, 1, 1, 1}} {
			if got := spare.Pulses(levels, bits); got != [4]int{} {
				t.Errorf("Pulses(%v, %d) = %v, want none", levels, bits, got)
			}
		}
	}
}

// 11.1: what is given hangs on how much levels differ, if none is 0, not on how great they are.
func TestPulsesOfAllGreater(t *testing.T) {
	next := mixed()
	for range 200 {
		levels := [4]int{1 + below(next, 8), 1 + below(next, 8), 1 + below(next, 8), 1 + below(next, 8)}
		bits := below(next, enough+2)
		want := spare.Pulses(levels, bits)
		for more := 1; more <= 12; more++ {
			var all [4]int
			for b := range all {
				all[b] = levels[b] + more
			}
			if got := spare.Pulses(all, bits); got != want {
				t.Fatalf("Pulses(%v, %d) = %v, and of all %d greater %v", levels, bits, want, more, got)
			}
		}
	}
}

// 11.1: a band alone has pulses as long as they can be paid, 8 and no more; another band of no level makes no difference.
func TestPulsesOfOneBand(t *testing.T) {
	for b := range api.Bands {
		for _, l := range []int{1, 2, 19, 20} {
			for bits := range enough + 2 {
				most := 0
				for k, price := range prices[b] {
					if price <= bits {
						most = k
					}
				}
				if got, want := spare.Pulses(but([4]int{}, b, l), bits), but([4]int{}, b, most); got != want {
					t.Errorf("Pulses(%v, %d) = %v, want %v", but([4]int{}, b, l), bits, got, want)
				}
			}
		}
	}
}

// 11.1
func TestCost(t *testing.T) {
	for _, x := range []struct {
		k    [4]int
		want int
	}{
		{[4]int{}, 0},
		{[4]int{1, 1}, 4},
		{[4]int{1, 1, 1, 1}, 11},
		{[4]int{1, 2, 3, 4}, 24},
		{[4]int{4, 3, 2, 1}, 17},
		{[4]int{8}, 5},
		{[4]int{0, 8}, 5},
		{[4]int{0, 0, 8}, 11},
		{[4]int{0, 0, 0, 8}, 18},
		{[4]int{8, 8, 8, 8}, enough},
		{[4]int{7, 7, 7, 7}, 37},
		{[4]int{9}, 0},
		{[4]int{9, 9, 9, 9}, 0},
		{[4]int{-1, -1, -1, -1}, 0},
		{[4]int{-1, 1, 9, 1}, 6},
		{[4]int{math.MaxInt, math.MinInt, 8, 8}, 29},
	} {
		if got := spare.Cost(x.k); got != x.want {
			t.Errorf("Cost(%v) = %d, want %d", x.k, got, x.want)
		}
	}
}

// 11.1: all counts of pulses, one beyond either end among them, in all bands.
func TestCostIsAsTold(t *testing.T) {
	const n = 11 // -1 to 9
	for x := range n * n * n {
		for last := -1; last <= 9; last += 5 {
			k := [4]int{x%n - 1, x/n%n - 1, x/n/n - 1, last}
			if got, want := spare.Cost(k), toldCost(k); got != want {
				t.Fatalf("Cost(%v) = %d, want %d", k, got, want)
			}
		}
	}
	for last := -1; last <= 9; last++ {
		k := [4]int{1, 2, 3, last}
		if got, want := spare.Cost(k), toldCost(k); got != want {
			t.Fatalf("Cost(%v) = %d, want %d", k, got, want)
		}
	}
}

// 11.1: what is no count of pulses costs nothing, and leaves what the others cost.
func TestCostOfOtherCounts(t *testing.T) {
	for _, x := range noCounts() {
		for b := range api.Bands {
			for _, k := range [][4]int{{}, {1, 1, 1, 1}, {8, 8, 8, 8}, {x, x, x, x}} {
				if got, want := spare.Cost(but(k, b, x)), toldCost(but(k, b, 0)); got != want {
					t.Errorf("Cost(%v) = %d, want %d", but(k, b, x), got, want)
				}
			}
		}
	}
}

// 11.2
func TestRoom(t *testing.T) {
	for _, x := range []struct{ size, used, want int }{
		{10, 0, 40},
		{10, 1, 39},
		{10, 39, 1},
		{10, 40, 0},
		{10, 41, 0},
		{10, 50, 0},
		{11, 0, 48},
		{20, 16, 104},
		{32, 0, 216},
		{32, 16, 200},
		{32, 215, 1},
		{32, 216, 0},
		{32, 217, 0},
		{9, 0, 0},
		{33, 0, 0},
		{20, -1, 0},
		{9, -1, 0},
		{33, -1, 0},
		{20, math.MaxInt, 0},
		{20, math.MinInt, 0},
		{math.MaxInt, 0, 0},
		{math.MinInt, 0, 0},
		{math.MaxInt, math.MaxInt, 0},
		{math.MaxInt, math.MinInt, 0},
		{math.MinInt, math.MaxInt, 0},
		{math.MinInt, math.MinInt, 0},
	} {
		if got := spare.Room(x.size, x.used); got != x.want {
			t.Errorf("Room(%d, %d) = %d, want %d", x.size, x.used, got, x.want)
		}
	}
}

// 11.2: all sizes, and those beyond, with all used bits that make a difference, and those beyond.
func TestRoomIsAsTold(t *testing.T) {
	others := []int{1 << 31, 1<<32 + 3, -1 << 32, -1<<32 + 20, 1 << 60, 1<<61 + 2, 1 << 62, -1 << 62, math.MaxInt, math.MaxInt - 1, math.MinInt, math.MinInt + 1, math.MinInt + 20}
	sizes := append([]int{255, 256, 256 + 20, -256 + 20, 1<<32 + 20, 1<<61 + 20, -1<<61 + 20}, others...)
	for size := -40; size <= 80; size++ {
		sizes = append(sizes, size)
	}
	for _, size := range sizes {
		for used := -300; used <= 300; used++ {
			if got, want := spare.Room(size, used), toldRoom(size, used); got != want {
				t.Fatalf("Room(%d, %d) = %d, want %d", size, used, got, want)
			}
		}
		for _, used := range others {
			if got, want := spare.Room(size, used), toldRoom(size, used); got != want {
				t.Fatalf("Room(%d, %d) = %d, want %d", size, used, got, want)
			}
		}
	}
}

// 11.3: what is given costs no more than there is, no band can have one more, and one of the level 0 has none.
func TestNoMoreCanBeGiven(t *testing.T) {
	for _, levels := range rows() {
		for bits := range enough + 2 {
			k := spare.Pulses(levels, bits)
			left := bits - spare.Cost(k)
			if left < 0 {
				t.Fatalf("Pulses(%v, %d) = %v cost %d", levels, bits, k, spare.Cost(k))
			}
			for b := range k {
				if k[b] < 0 || k[b] > api.MaxPulse || levels[b] == 0 && k[b] != 0 {
					t.Fatalf("Pulses(%v, %d) = %v", levels, bits, k)
				}
				if can(levels, k, b, left) {
					t.Fatalf("Pulses(%v, %d) = %v, and band %d can have one more", levels, bits, k, b)
				}
			}
		}
	}
}

// 11.3: levels of frames, and the room of packets of all sizes.
func TestPulsesOfPackets(t *testing.T) {
	next := mixed()
	for size := api.MinBytes; size <= api.MaxBytes; size++ {
		for used := range 8*size + 2 {
			var w api.Block
			for i := range w {
				w[i] = int(next()) >> (40 + below(next, 24))
			}
			levels := level.Levels(w)
			room := spare.Room(size, used)
			k := spare.Pulses(levels, room)
			if k != told(levels, room) || spare.Cost(k) > room || spare.Cost(k) > 0 && spare.Cost(k)+used+40 > 8*size {
				t.Fatalf("Pulses(%v, %d) = %v, with %d of %d bytes' bits used", levels, room, k, used, size)
			}
		}
	}
}

// 11.1: what is answered hangs on nothing that came before, and what is handed in stays.
func TestOneAfterAnother(t *testing.T) {
	levels, k := [4]int{9, 3, 12, 7}, [4]int{1, 2, 3, 4}
	pulses, cost, room := spare.Pulses(levels, 30), spare.Cost(k), spare.Room(20, 16)
	for _, x := range noLevels() {
		spare.Pulses([4]int{x, x, 1, 1}, x)
		spare.Cost([4]int{x, x, x, 8})
		spare.Room(x, x)
		got := spare.Pulses(levels, 30)
		if got != pulses || spare.Cost(k) != cost || spare.Room(20, 16) != room {
			t.Fatalf("behind %d: %v, %d and %d, want %v, %d and %d", x, got, spare.Cost(k), spare.Room(20, 16), pulses, cost, room)
		}
	}
	if levels != [4]int{9, 3, 12, 7} || k != [4]int{1, 2, 3, 4} {
		t.Errorf("what was handed in is %v and %v", levels, k)
	}
}
