package level_test

import (
	"math"
	"math/big"
	"slices"
	"testing"

	"spool/api"
	"spool/level"
)

// far is the size beyond which a wave counts as that.
const far = 1 << 40

// places answers the places of a band's waves, as the chapter lists them, or none of no band.
func places(b int) []int {
	switch b {
	case 0:
		return []int{0, 1}
	case 1:
		return []int{2, 3}
	case 2:
		return []int{4, 5, 6, 7}
	case 3:
		return []int{8, 9, 10, 11, 12, 13, 14, 15}
	}
	return nil
}

// noBands answers numbers that are no band, among them those that a narrower number would take for one.
func noBands() []int {
	return []int{-1, 4, -2, 5, -4, 8, 16, 255, 256, -256, 1 << 32, 1<<32 + 1, 1 << 62, math.MaxInt, math.MinInt, math.MinInt + 1}
}

// toldLevel answers a band's level, word by word as the chapter tells it, by a sum of any size.
func toldLevel(waves []int) int {
	sum := new(big.Int)
	for _, x := range waves {
		one := new(big.Int).Abs(big.NewInt(int64(x)))
		if edge := big.NewInt(far); one.Cmp(edge) > 0 {
			one = edge
		}
		sum.Add(sum, one)
	}
	digits := 0
	for ; sum.Sign() > 0 && digits < 20; digits++ {
		sum.Rsh(sum, 1)
	}
	return digits
}

// toldLevels answers the levels of all bands.
func toldLevels(w api.Block) [4]int {
	var levels [4]int
	for b := range levels {
		var waves []int
		for _, i := range places(b) {
			waves = append(waves, w[i])
		}
		levels[b] = toldLevel(waves)
	}
	return levels
}

// toldFill answers a band's waves, word by word as the chapter tells them; Quo's quotient is rounded toward 0.
func toldFill(l int, y []int) []int {
	waves := make([]int, len(y))
	if l < 1 || l > 20 || len(y) > 8 {
		return waves
	}
	k := int64(0)
	for _, p := range y {
		if p < -8 || p > 8 {
			return waves
		}
		k += new(big.Int).Abs(big.NewInt(int64(p))).Int64()
	}
	if k == 0 {
		return waves
	}
	for i, p := range y {
		product := new(big.Int).Lsh(big.NewInt(int64(p)*3), uint(l))
		waves[i] = int(product.Quo(product, big.NewInt(4*k)).Int64())
	}
	return waves
}

// mixed answers a row of numbers without an order to be seen, the same one each time.
func mixed() func() uint64 {
	x := uint64(88172645463325252)
	return func() uint64 {
		x ^= x << 13
		x ^= x >> 7
		x ^= x << 17
		return x
	}
}

// count answers the frame of 100, 101 and so on, no two waves of which are alike.
func count() api.Block {
	var w api.Block
	for i := range w {
		w[i] = 100 + i
	}
	return w
}

// all answers a frame of one wave.
func all(x int) api.Block {
	var w api.Block
	for i := range w {
		w[i] = x
	}
	return w
}

// but answers w with x in one place.
func but(w api.Block, at, x int) api.Block {
	w[at] = x
	return w
}

// frames answers frames of waves, the same ones each time: flat ones, single waves and mixed ones of all lengths.
func frames() []api.Block {
	list := []api.Block{{}, count(), all(1), all(-1), all(far), all(-far), all(math.MaxInt), all(math.MinInt)}
	for i := range api.Frame {
		list = append(list, but(api.Block{}, i, 1), but(api.Block{}, i, -1), but(api.Block{}, i, 77777))
	}
	next := mixed()
	for shift := range 64 {
		for range 8 {
			var w api.Block
			for i := range w {
				w[i] = int(next()) >> shift
			}
			list = append(list, w)
		}
	}
	return list
}

// edges answers waves next to the powers of two, of both signs, the named bounds among them, and the ends of the ints.
func edges() []int {
	list := []int{0, math.MaxInt, math.MaxInt - 1, math.MinInt, math.MinInt + 1}
	for i := range 63 {
		for d := -1; d <= 1; d++ {
			list = append(list, 1<<i+d, -(1<<i)+d)
		}
	}
	return list
}

// spoiled writes over a list, spare room included.
func spoiled(list []int) {
	list = list[:cap(list)]
	for i := range list {
		list[i] = -99
	}
}

// 6.1
func TestSize(t *testing.T) {
	for b, want := range []int{2, 2, 4, 8} {
		if got := level.Size(b); got != want {
			t.Errorf("Size(%d) = %d, want %d", b, got, want)
		}
	}
	for _, b := range noBands() {
		if got := level.Size(b); got != 0 {
			t.Errorf("Size(%d) = %d, want 0", b, got)
		}
	}
}

// 6.1
func TestBand(t *testing.T) {
	for b, want := range [][]int{{100, 101}, {102, 103}, {104, 105, 106, 107}, {108, 109, 110, 111, 112, 113, 114, 115}} {
		if got := level.Band(count(), b); !slices.Equal(got, want) {
			t.Errorf("Band(%v, %d) = %v, want %v", count(), b, got, want)
		}
	}
	for _, b := range noBands() {
		if got := level.Band(count(), b); len(got) != 0 {
			t.Errorf("Band(%v, %d) = %v, want none", count(), b, got)
		}
	}
	for _, w := range frames() {
		for b := range api.Bands {
			got := level.Band(w, b)
			for i, at := range places(b) {
				if len(got) != len(places(b)) || got[i] != w[at] {
					t.Fatalf("Band(%v, %d) = %v", w, b, got)
				}
			}
		}
	}
}

// 6.1: a band that is handed out is new memory, spare room included.
func TestBandIsNewMemory(t *testing.T) {
	w := count()
	for b := range api.Bands {
		first, second := level.Band(w, b), level.Band(w, b)
		spoiled(first)
		if w != count() {
			t.Fatalf("the waves are changed by what is written to band %d: %v", b, w)
		}
		for i, at := range places(b) {
			if second[i] != w[at] {
				t.Errorf("band %d is changed by what is written to an earlier one: %v", b, second)
			}
		}
		if again := level.Band(w, b); !slices.Equal(again, second) {
			t.Errorf("band %d, asked again, is %v", b, again)
		}
	}
}

// 6.1
func TestPut(t *testing.T) {
	c := []int{1, -2, 3, math.MaxInt, math.MinInt, 6, 7, -8}
	for b, n := range []int{2, 2, 4, 8} {
		want := count()
		for i, at := range places(b) {
			want[at] = c[i]
		}
		if got := level.Put(count(), b, c[:n]); got != want {
			t.Errorf("Put(%v, %d, %v) = %v, want %v", count(), b, c[:n], got, want)
		}
	}
}

// 6.1: of no band, or another number of waves, the waves stay.
func TestPutOfOthers(t *testing.T) {
	w := count()
	lists := [][]int{nil, {}}
	for n := 1; n <= 20; n++ {
		list := make([]int, n)
		spoiled(list)
		lists = append(lists, list)
	}
	for _, c := range lists {
		for b := range api.Bands {
			if got := level.Put(w, b, c); len(c) != len(places(b)) && got != w {
				t.Errorf("Put(%v, %d, %v) = %v", w, b, c, got)
			}
		}
		for _, b := range noBands() {
			if got := level.Put(w, b, c); got != w {
				t.Errorf("Put(%v, %d, %v) = %v", w, b, c, got)
			}
		}
	}
}

// 6.1: what is put isn't changed, spare room included, and isn't kept.
func TestPutLeavesItsArguments(t *testing.T) {
	for b := range api.Bands {
		n := len(places(b))
		room := make([]int, n+4)
		for i := range room {
			room[i] = i + 1
		}
		before := slices.Clone(room)
		w := count()
		got := level.Put(w, b, room[:n])
		if !slices.Equal(room, before) || w != count() {
			t.Errorf("band %d is put, and then there is %v, in %v", b, room, w)
		}
		put := got
		spoiled(room)
		if got != put || level.Put(count(), b, before[:n]) != put {
			t.Errorf("band %d, once put, is changed: %v", b, got)
		}
	}
}

// 6.1
func TestLevels(t *testing.T) {
	for _, c := range []struct {
		w    api.Block
		want [4]int
	}{
		{},
		{api.Block{3, -4}, [4]int{3}}, // the chapter's example
		{api.Block{2: 3, 3: -4}, [4]int{1: 3}},
		{api.Block{4: 3, 7: -4}, [4]int{2: 3}},
		{api.Block{8: 3, 15: -4}, [4]int{3: 3}},
		{all(1), [4]int{2, 2, 3, 4}},
		{all(-1), [4]int{2, 2, 3, 4}},
		{count(), [4]int{8, 8, 9, 10}},
		// Signs don't make up for each other.
		{api.Block{5, -5, -5, 5, 5, -5, 5, -5, -5, 5, -5, 5, -5, 5, -5, 5}, [4]int{4, 4, 5, 6}},
		{api.Block{math.MinInt, math.MaxInt, math.MaxInt, math.MinInt}, [4]int{20, 20}},
		// The greatest levels, and those that would be above.
		{api.Block{1<<18 - 1, 1 << 18, 1 << 18, 1 << 18}, [4]int{19, 20}},
		{api.Block{1<<19 - 1, 0, 1 << 19, 0}, [4]int{19, 20}},
		{api.Block{1<<20 - 1, 0, 1 << 20, 0}, [4]int{20, 20}},
		{api.Block{4: 1 << 20, 8: 1 << 21}, [4]int{0, 0, 20, 20}},
		{all(1 << 19), [4]int{20, 20, 20, 20}},
		{all(1 << 20), [4]int{20, 20, 20, 20}},
		{all(far), [4]int{20, 20, 20, 20}},
		{all(-far), [4]int{20, 20, 20, 20}},
		{all(far + 1), [4]int{20, 20, 20, 20}},
		{all(-far - 1), [4]int{20, 20, 20, 20}},
		{all(1 << 60), [4]int{20, 20, 20, 20}},
		{all(1 << 61), [4]int{20, 20, 20, 20}},
		{all(1 << 62), [4]int{20, 20, 20, 20}},
		{all(math.MaxInt), [4]int{20, 20, 20, 20}},
		{all(math.MinInt), [4]int{20, 20, 20, 20}},
	} {
		if got := level.Levels(c.w); got != c.want {
			t.Errorf("Levels(%v) = %v, want %v", c.w, got, c.want)
		}
	}
}

// 6.1: each edge in each place, alone, among others, and beside each other edge, with which a sum may be no int.
func TestLevelsOfEdges(t *testing.T) {
	for _, x := range edges() {
		for i := range api.Frame {
			for _, w := range []api.Block{{}, count(), all(far), all(x)} {
				w = but(w, i, x)
				if got, want := level.Levels(w), toldLevels(w); got != want {
					t.Fatalf("Levels(%v) = %v, want %v", w, got, want)
				}
			}
		}
		for _, y := range edges() {
			w := api.Block{x, y, y, x, x, 0, y, 0, 8: y, 12: x, 15: y}
			if got, want := level.Levels(w), toldLevels(w); got != want {
				t.Fatalf("Levels(%v) = %v, want %v", w, got, want)
			}
		}
	}
}

// 6.1
func TestLevelsAreAsTold(t *testing.T) {
	for _, w := range frames() {
		before := w
		if got, want := level.Levels(w), toldLevels(w); got != want || w != before {
			t.Fatalf("Levels(%v) = %v, want %v", before, got, want)
		}
	}
}

// 6.2
func TestFill(t *testing.T) {
	for _, c := range []struct {
		level   int
		y, want []int
	}{
		{10, nil, nil},
		{10, []int{}, nil},
		{10, []int{2, -1, 0, 1}, []int{384, -192, 0, 192}},
		{10, []int{1, -1}, []int{384, -384}},
		{10, []int{-1, 0}, []int{-768, 0}},
		{3, []int{1}, []int{6}},
		{3, []int{-8}, []int{-6}},
		{2, []int{1, 0, 0}, []int{3, 0, 0}},
		// Rounded toward 0 on either side of it.
		{1, []int{1, 0}, []int{1, 0}},
		{1, []int{-1, 0}, []int{-1, 0}},
		{1, []int{1, -1}, []int{0, 0}},
		{4, []int{5, -2, 0, 0}, []int{8, -3, 0, 0}},
		{4, []int{-5, 2, 0, 0}, []int{-8, 3, 0, 0}},
		{5, []int{4, -4, 1, 0, 0, 0, 0, 0}, []int{10, -10, 2, 0, 0, 0, 0, 0}},
		// The ends of levels and pulses.
		{0, []int{2, -1, 0, 1}, []int{0, 0, 0, 0}},
		{-1, []int{2, -1, 0, 1}, []int{0, 0, 0, 0}},
		{20, []int{2, -1, 0, 1}, []int{393216, -196608, 0, 196608}},
		{21, []int{2, -1, 0, 1}, []int{0, 0, 0, 0}},
		{20, []int{8}, []int{786432}},
		{20, []int{-8}, []int{-786432}},
		{20, []int{8, 0, 0, 0, 0, 0, 0, -8}, []int{393216, 0, 0, 0, 0, 0, 0, -393216}},
		{20, []int{8, 8, 8, 8, 8, 8, 8, 8}, []int{98304, 98304, 98304, 98304, 98304, 98304, 98304, 98304}},
		{20, []int{-8, -8, -8, -8, -8, -8, -8, 7}, []int{-99864, -99864, -99864, -99864, -99864, -99864, -99864, 87381}},
		{20, []int{0, 0}, []int{0, 0}},
		{20, []int{0, 0, 0, 0, 0, 0, 0, 0}, []int{0, 0, 0, 0, 0, 0, 0, 0}},
		{10, []int{9, 0}, []int{0, 0}},
		{10, []int{-9, 1}, []int{0, 0}},
		{10, []int{9, -9}, []int{0, 0}},
	} {
		if got := level.Fill(c.level, c.y); !slices.Equal(got, c.want) {
			t.Errorf("Fill(%d, %v) = %v, want %v", c.level, c.y, got, c.want)
		}
	}
}

// asTold holds Fill against the chapter's words.
func asTold(t *testing.T, l int, y []int) {
	t.Helper()
	if got, want := level.Fill(l, y), toldFill(l, y); !slices.Equal(got, want) {
		t.Fatalf("Fill(%d, %v) = %v, want %v", l, y, got, want)
	}
}

// 6.2: all that one and two numbers may be, and one beyond either end, of all levels, and one beyond either end.
func TestFillOfFew(t *testing.T) {
	for l := -1; l <= 21; l++ {
		asTold(t, l, nil)
		for a := -9; a <= 9; a++ {
			asTold(t, l, []int{a})
			for b := -9; b <= 9; b++ {
				asTold(t, l, []int{a, b})
			}
		}
	}
}

// 6.2
func TestFillIsAsTold(t *testing.T) {
	next := mixed()
	for n := range 10 {
		for l := -1; l <= 21; l++ {
			for most := 1; most <= 9; most++ {
				for range 10 {
					y := make([]int, n)
					for i := range y {
						y[i] = int(next()>>32%uint64(2*most+1)) - most
					}
					asTold(t, l, y)
				}
			}
		}
	}
}

// none tells whether a list is of so many 0s.
func none(list []int, n int) bool {
	return len(list) == n && !slices.ContainsFunc(list, func(x int) bool { return x != 0 })
}

// 6.2: of numbers, or of lists, that may not be, as many 0s as there are numbers.
func TestFillOfOthers(t *testing.T) {
	for n := 1; n <= 8; n++ {
		for i := range n {
			for _, x := range []int{9, -9, 16, -16, 256, 257, 1 << 32, 1<<32 + 1, 1 << 62, -(1 << 62), math.MaxInt, math.MinInt, math.MinInt + 1} {
				y := []int{1, -2, 3, 0, 5, -6, 7, 8}[:n:n]
				y[i] = x
				if got := level.Fill(10, y); !none(got, n) {
					t.Errorf("Fill(10, %v) = %v", y, got)
				}
			}
			for _, x := range []int{8, -8} {
				y := make([]int, n)
				y[i] = x
				if got := level.Fill(10, y); len(got) != n || got[i] != 96*x {
					t.Errorf("Fill(10, %v) = %v", y, got)
				}
			}
		}
	}
	for _, n := range []int{9, 10, 16, 255, 256, 257, 264, 1000, 1<<16 + 1} {
		y := make([]int, n)
		if got := level.Fill(10, y); !none(got, n) {
			t.Errorf("Fill of %d 0s has %d numbers", n, len(got))
		}
		y[0], y[n-1] = 1, -1
		if got := level.Fill(10, y); !none(got, n) {
			t.Errorf("Fill of %d numbers has %d numbers, the first of which is %d", n, len(got), got[0])
		}
	}
}

// 6.2
func TestFillOfOtherLevels(t *testing.T) {
	for _, l := range []int{0, -1, -2, -20, -64, 21, 22, 32, 63, 64, 65, 256 + 10, 1<<32 + 10, 1 << 62, math.MaxInt, math.MinInt, math.MinInt + 10} {
		for n := range 10 {
			y := make([]int, n)
			for i := range y {
				y[i] = 1 - 2*(i%2)
			}
			if got := level.Fill(l, y); !none(got, n) {
				t.Errorf("Fill(%d, %v) = %v", l, y, got)
			}
		}
	}
}

// 6.2: pulses aren't changed, spare room included, and what is handed out shares no memory with them, nor with an earlier answer.
func TestFillIsNewMemory(t *testing.T) {
	for _, c := range []struct{ level, n, x int }{{10, 4, 2}, {10, 8, -8}, {10, 9, 1}, {10, 3, 9}, {0, 4, 2}, {21, 4, 2}, {10, 4, 0}, {10, 0, 0}} {
		room := make([]int, c.n+4)
		for i := range room {
			room[i] = c.x
		}
		before := slices.Clone(room)
		y := room[:c.n]
		first, second := level.Fill(c.level, y), level.Fill(c.level, y)
		want := slices.Clone(second)
		spoiled(first)
		if !slices.Equal(room, before) || !slices.Equal(second, want) {
			t.Errorf("what is written to waves of the level %d is in the pulses, %v, or in later waves, %v", c.level, room, second)
		}
		spoiled(room)
		if !slices.Equal(second, want) {
			t.Errorf("what is written to pulses is in the waves of the level %d, %v", c.level, second)
		}
		if again := level.Fill(c.level, before[:c.n]); !slices.Equal(again, want) {
			t.Errorf("waves of the level %d, asked for again, are %v, at first %v", c.level, again, want)
		}
	}
}

// 6.3: what was put is there, and nowhere else.
func TestPutIsThere(t *testing.T) {
	list := frames()
	for n, w := range list {
		other := list[(7*n+5)%len(list)]
		for b := range api.Bands {
			c := level.Band(other, b)
			put := level.Put(w, b, c)
			if got := level.Band(put, b); !slices.Equal(got, c) {
				t.Fatalf("%v was put in band %d of %v, and there is %v", c, b, w, got)
			}
			for a := range api.Bands {
				if got := level.Band(put, a); a != b && !slices.Equal(got, level.Band(w, a)) {
					t.Fatalf("%v was put in band %d of %v, and band %d is %v", c, b, w, a, got)
				}
			}
			if back := level.Put(put, b, level.Band(w, b)); back != w {
				t.Fatalf("%v, band %d of which was put and put back, is %v", w, b, back)
			}
		}
	}
}

// 6.3: the bands are the whole frame, each wave of it in one of them.
func TestBandsAreTheFrame(t *testing.T) {
	for _, w := range frames() {
		var built api.Block
		var row []int
		for b := range api.Bands {
			if level.Size(b) != len(level.Band(w, b)) {
				t.Fatalf("band %d of %v has not %d waves", b, w, level.Size(b))
			}
			built = level.Put(built, b, level.Band(w, b))
			row = append(row, level.Band(w, b)...)
		}
		if built != w || !slices.Equal(row, w[:]) {
			t.Fatalf("the bands of %v are %v, and put are %v", w, row, built)
		}
	}
}

// 6.3: a band's level is 0 just if all its waves are 0.
func TestNoLevelOfNoWaves(t *testing.T) {
	silent := func(w api.Block) {
		t.Helper()
		for b, l := range level.Levels(w) {
			waves := level.Band(w, b)
			if (l == 0) != none(waves, len(waves)) || l < 0 || l > api.MaxLevel {
				t.Fatalf("the level of %v is %d", waves, l)
			}
		}
	}
	for _, w := range frames() {
		silent(w)
	}
	for _, x := range edges() {
		for i := range api.Frame {
			alone := but(api.Block{}, i, x)
			silent(alone)
			silent(but(alone, i^1, -x))
			silent(but(alone, i^1, x))
		}
	}
}
