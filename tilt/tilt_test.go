package tilt_test

import (
	"math"
	"math/big"
	"testing"

	"spool/api"
	"spool/tilt"
)

const (
	most, least  = 1<<21 - 1, -(1 << 21) // the ends of 22 bits
	loud, hushed = 1<<15 - 1, -(1 << 15) // the ends of 16 bits
)

// toldPart answers the part of x; Quo's quotient is rounded toward 0.
func toldPart(x int) int {
	product := new(big.Int).Mul(big.NewInt(27853), big.NewInt(int64(x)))
	return int(product.Quo(product, big.NewInt(32768)).Int64())
}

// told answers x cut to the bits between two ends.
func told(x, low, high int) int {
	switch {
	case x < low:
		return low
	case x > high:
		return high
	}
	return x
}

// toldLift answers the lifted samples, and the last one, word by word as the chapter tells them.
func toldLift(last int, b api.Block) (api.Block, int) {
	row := []int{told(last, least, most)}
	for _, x := range b {
		row = append(row, told(x, least, most))
	}
	var lifted api.Block
	for i := range lifted {
		lifted[i] = row[i+1] - toldPart(row[i])
	}
	return lifted, row[16]
}

// toldLay answers the samples laid down, and the last of them, word by word as the chapter tells them.
func toldLay(last int, b api.Block) (api.Block, int) {
	row := []int{told(last, least, most)}
	for i, x := range b {
		row = append(row, told(told(x, least, most)+toldPart(row[i]), least, most))
	}
	return api.Block(row[1:]), row[16]
}

// toldSound answers what is heard of samples.
func toldSound(b api.Block) api.Block {
	return block(func(i int) int { return told(b[i], hushed, loud) })
}

// block answers a frame whose i-th sample rule tells.
func block(rule func(i int) int) api.Block {
	var b api.Block
	for i := range b {
		b[i] = rule(i)
	}
	return b
}

// all answers a frame of one sample.
func all(x int) api.Block {
	return block(func(int) int { return x })
}

// but answers b with x in one place.
func but(b api.Block, at, x int) api.Block {
	b[at] = x
	return b
}

// mixed answers a row of numbers without an order to be seen, the same one each time.
func mixed() func() uint64 {
	x := uint64(88172645463325252)
	return func() uint64 {
		x ^= x << 13
		x ^= x >> 7
		x ^= x << 17
		return x
	}
}

// frames answers frames of samples from low to high, the same ones each time: flat ones, steep ones, single samples and mixed ones.
func frames(low, high int) []api.Block {
	list := []api.Block{
		{}, all(high), all(low), all(1), all(-1),
		block(func(i int) int { return [2]int{high, low}[i%2] }),
		block(func(i int) int { return [2]int{low, high}[i%2] }),
		block(func(i int) int { return high * i / 15 }),
		block(func(i int) int { return low * i / 15 }),
	}
	for i := range api.Frame {
		list = append(list, but(api.Block{}, i, high), but(api.Block{}, i, low))
	}
	next := mixed()
	for size := -low; size > 0; size /= 2 {
		for range 8 {
			list = append(list, block(func(int) int { return int(next()%uint64(2*size)) - size }))
		}
	}
	return list
}

// edges answers the ends of 22 bits and of 16 bits and what is next to them, small numbers, numbers that a narrower one would hide, and the ends of the ints.
func edges() []int {
	list := []int{
		1 << 22, -(1 << 22), 1 << 32, -(1 << 32), 1<<32 + 5, 5 - 1<<32, 1 << 48, 1<<48 + 1, 1 << 50, 1 << 62, -(1 << 62),
		math.MaxInt, math.MaxInt - 1, math.MinInt, math.MinInt + 1,
	}
	for _, x := range []int{most, least, loud, hushed, 0} {
		for d := -3; d <= 3; d++ {
			list = append(list, x+d)
		}
	}
	return list
}

// ramp is an ordinary frame; what becomes of it was worked out apart from the program.
func ramp() api.Block { return block(func(i int) int { return 1000*i - 7000 }) }

// 5.1
func TestLift(t *testing.T) {
	for _, c := range []struct {
		last int
		b    api.Block
		want api.Block
		kept int
	}{
		{},
		{0, api.Block{100, 100}, api.Block{100, 15, -85}, 0}, // the chapter's example
		{0, api.Block{-100, -100}, api.Block{-100, -15, 85}, 0},
		{0, ramp(), api.Block{-7000, -50, 100, 250, 400, 550, 700, 850, 1000, 1150, 1300, 1450, 1600, 1750, 1900, 2050}, 8000},
		{-1234, ramp(), api.Block{-5952, -50, 100, 250, 400, 550, 700, 850, 1000, 1150, 1300, 1450, 1600, 1750, 1900, 2050}, 8000},
		{0, api.Block{15: 7}, api.Block{15: 7}, 7},
		{100, api.Block{15: -7}, api.Block{0: -85, 15: -7}, -7},
		// What is lifted isn't cut: it may have more bits than a sample.
		{most, all(least), but(all(-314560), 0, -3879743), least},
		{least, all(most), but(all(314560), 0, 3879743), most},
		{most, all(most), all(314560), most},
		{least, all(least), all(-314560), least},
		// What is cut ahead is as if the ends had been handed in.
		{most + 1, all(least - 1), but(all(-314560), 0, -3879743), least},
		{least - 1, all(most + 1), but(all(314560), 0, 3879743), most},
		{math.MaxInt, all(math.MinInt), but(all(-314560), 0, -3879743), least},
		{math.MinInt, all(math.MaxInt), but(all(314560), 0, 3879743), most},
		{0, api.Block{14: math.MaxInt, 15: 1}, api.Block{14: most, 15: -1782590}, 1},
		{0, api.Block{14: math.MinInt, 15: 1}, api.Block{14: least, 15: 1782593}, 1},
	} {
		if got, kept := tilt.Lift(c.last, c.b); got != c.want || kept != c.kept {
			t.Errorf("Lift(%d, %v) = %v, %d, want %v, %d", c.last, c.b, got, kept, c.want, c.kept)
		}
	}
}

// 5.1
func TestLay(t *testing.T) {
	for _, c := range []struct {
		last int
		b    api.Block
		want api.Block
		kept int
	}{
		{},
		{0, api.Block{100, 15, -85}, api.Block{100, 100}, 0}, // the chapter's example, back
		{0, ramp(), api.Block{-7000, -11950, -15157, -16883, -17350, -16747, -15235, -12949, -10006, -6505, -2529, 1851, 6573, 11587, 16849, 22321}, 22321},
		{-1234, ramp(), api.Block{-8048, -12840, -15914, -17526, -17897, -17212, -15630, -13285, -10292, -6748, -2735, 1676, 6424, 11460, 16741, 22229}, 22229},
		{0, all(400000), api.Block{400000, 740002, 1029006, 1274661, 1483469, 1660957, 1811823, 1940060, 2049062, most, most, most, most, most, most, most}, most},
		// Parts fade toward 0 from either side, and are rounded so.
		{7, api.Block{}, api.Block{5, 4, 3, 2, 1}, 0},
		{-7, api.Block{}, api.Block{-5, -4, -3, -2, -1}, 0},
		{most, api.Block{}, api.Block{1782591, 1515213, 1287940, 1094756, 930549, 790972, 672331, 571485, 485765, 412903, 350970, 298326, 253578, 215542, 183212, 155731}, 155731},
		{least, api.Block{}, api.Block{-1782592, -1515214, -1287941, -1094757, -930550, -790973, -672331, -571485, -485765, -412903, -350970, -298326, -253578, -215542, -183212, -155731}, -155731},
		{most, all(most), all(most), most},
		{least, all(least), all(least), least},
		// A sample is cut ahead of adding, too: what is beyond doesn't make up for the part.
		{least, api.Block{1 << 40, least}, api.Block{314559, -1829775, -1555319, -1322030, -1123733, -955179, -811907, -690125, -586610, -498622, -423831, -360258, -306221, -260289, -221247, -188061}, -188061},
		{most + 1, all(most + 1), all(most), most},
		{least - 1, all(least - 1), all(least), least},
		{math.MaxInt, all(math.MaxInt), all(most), most},
		{math.MinInt, all(math.MinInt), all(least), least},
		{math.MinInt, api.Block{15: math.MaxInt}, api.Block{-1782592, -1515214, -1287941, -1094757, -930550, -790973, -672331, -571485, -485765, -412903, -350970, -298326, -253578, -215542, -183212, 1941420}, 1941420},
	} {
		if got, kept := tilt.Lay(c.last, c.b); got != c.want || kept != c.kept {
			t.Errorf("Lay(%d, %v) = %v, %d, want %v, %d", c.last, c.b, got, kept, c.want, c.kept)
		}
	}
}

// 5.1: what is laid down reaches an end, or would go beyond it; the part for the next one is that of what came out.
func TestLaidDownAtTheEnds(t *testing.T) {
	for _, c := range []struct{ last, x, want, next int }{
		{100, most - 86, most - 1, 1782590},
		{100, most - 85, most, 1782591},
		{100, most - 84, most, 1782591},
		{100, most, most, 1782591},
		{-100, least + 86, least + 1, -1782591},
		{-100, least + 85, least, -1782592},
		{-100, least + 84, least, -1782592},
		{-100, least, least, -1782592},
		{most, 314559, most - 1, 1782590},
		{most, 314560, most, 1782591},
		{most, 314561, most, 1782591},
		{least, -314559, least + 1, -1782591},
		{least, -314560, least, -1782592},
		{least, -314561, least, -1782592},
	} {
		got, _ := tilt.Lay(c.last, api.Block{c.x})
		if got[0] != c.want || got[1] != c.next {
			t.Errorf("%d laid down behind %d is %d, then %d, want %d, %d", c.x, c.last, got[0], got[1], c.want, c.next)
		}
	}
	got, kept := tilt.Lay(100, block(func(i int) int { return []int{most, 0}[i%2] }))
	for i, x := range got {
		if want := []int{most, 1782591}[i%2]; x != want {
			t.Errorf("of the greatest and 0 by turns, the %d-th laid down is %d, want %d", i, x, want)
		}
	}
	if kept != 1782591 {
		t.Errorf("the last of them is %d", kept)
	}
}

// 5.1: the part of each number of 17 bits and of those near the ends, as it is told by what is lifted and laid down behind it.
func TestParts(t *testing.T) {
	try := func(x int) {
		want := toldPart(x)
		lifted, _ := tilt.Lift(x, api.Block{})
		laid, _ := tilt.Lay(x, api.Block{})
		if lifted[0] != -want || laid[0] != want {
			t.Fatalf("the part of %d is %d lifted, %d laid down, want %d", x, -lifted[0], laid[0], want)
		}
	}
	for x := -1 << 16; x <= 1<<16; x++ {
		try(x)
	}
	for d := range 1 << 12 {
		try(most - d)
		try(least + d)
	}
}

// asTold holds Lift, Lay and Sound against the chapter's words.
func asTold(t *testing.T, last int, b api.Block) {
	t.Helper()
	lifted, kept := tilt.Lift(last, b)
	if want, n := toldLift(last, b); lifted != want || kept != n {
		t.Fatalf("Lift(%d, %v) = %v, %d, want %v, %d", last, b, lifted, kept, want, n)
	}
	laid, kept := tilt.Lay(last, b)
	if want, n := toldLay(last, b); laid != want || kept != n {
		t.Fatalf("Lay(%d, %v) = %v, %d, want %v, %d", last, b, laid, kept, want, n)
	}
	if got, want := tilt.Sound(b), toldSound(b); got != want {
		t.Fatalf("Sound(%v) = %v, want %v", b, got, want)
	}
}

// 5.1, 5.2: each edge ahead of the first, and in each place, alone, among ordinary samples, and behind each other edge.
func TestEdgesInEachPlace(t *testing.T) {
	for _, x := range edges() {
		for _, b := range []api.Block{{}, ramp(), all(x), all(most), all(least)} {
			asTold(t, x, b)
			for i := range api.Frame {
				asTold(t, 0, but(b, i, x))
				asTold(t, -1234, but(b, i, x))
				asTold(t, x, but(b, i, x))
			}
		}
		for _, y := range edges() {
			for i := range api.Frame - 1 {
				asTold(t, 0, but(but(ramp(), i, x), i+1, y))
			}
			asTold(t, x, but(ramp(), 0, y))
		}
	}
}

// 5.1, 5.2
func TestFramesAreAsTold(t *testing.T) {
	for _, b := range append(frames(least, most), append(frames(hushed, loud), frames(-(1<<40), 1<<40)...)...) {
		for _, last := range []int{0, 1, -1, 9999, -9999, most, least, math.MaxInt, math.MinInt} {
			asTold(t, last, b)
		}
	}
}

// 5.1: a row of frames, each lifted behind what the one ahead of it left, is lifted as one row; laid down so, it is laid down as one row.
func TestFramesGoOn(t *testing.T) {
	list := frames(hushed, loud)
	last, ahead, behind := 321, 321, 321
	for _, b := range list {
		lifted, next := tilt.Lift(ahead, b)
		if lifted[0] != b[0]-toldPart(last) {
			t.Fatalf("%v is lifted to %v behind %d", b, lifted, last)
		}
		laid, kept := tilt.Lay(behind, lifted)
		if laid != b {
			t.Fatalf("%v is lifted and laid down as %v", b, laid)
		}
		last, ahead, behind = b[15], next, kept
	}
}

// 5.2
func TestSound(t *testing.T) {
	for _, c := range []struct{ x, want int }{
		{0, 0}, {3, 3}, {-3, -3}, {40000, loud}, {-40000, hushed},
		{loud - 1, loud - 1}, {loud, loud}, {loud + 1, loud}, {hushed + 1, hushed + 1}, {hushed, hushed}, {hushed - 1, hushed},
		{most, loud}, {least, hushed}, {most + 1, loud}, {least - 1, hushed},
		{1 << 16, loud}, {1<<16 + 5, loud}, {-(1 << 16), hushed}, {1 << 32, loud}, {5 - 1<<32, hushed},
		{math.MaxInt, loud}, {math.MinInt, hushed},
	} {
		for i := range api.Frame {
			if got, want := tilt.Sound(but(api.Block{}, i, c.x)), but(api.Block{}, i, c.want); got != want {
				t.Errorf("%d sounds as the %d-th like %v, want %v", c.x, i, got, want)
			}
		}
		if got := tilt.Sound(all(c.x)); got != all(c.want) {
			t.Errorf("a frame of %d sounds like %v", c.x, got)
		}
	}
	if got := tilt.Sound(ramp()); got != ramp() {
		t.Errorf("Sound(%v) = %v", ramp(), got)
	}
}

// undone tells whether samples of 16 bits, lifted and laid down behind the same number, are as they were.
func undone(t *testing.T, last int, b api.Block) {
	t.Helper()
	lifted, _ := tilt.Lift(last, b)
	laid, kept := tilt.Lay(last, lifted)
	if laid != b || kept != b[15] {
		t.Fatalf("%v behind %d is lifted to %v and laid down as %v, %d", b, last, lifted, laid, kept)
	}
	if got := tilt.Sound(laid); got != b {
		t.Fatalf("%v is heard as %v", b, got)
	}
}

// 5.3
func TestLiftedAndLaidDown(t *testing.T) {
	list := frames(hushed, loud)
	for _, last := range edges() {
		for _, b := range list {
			undone(t, last, b)
		}
		for _, x := range []int{loud, loud - 1, hushed, hushed + 1, 1, -1} {
			for i := range api.Frame {
				undone(t, last, but(ramp(), i, x))
			}
		}
	}
	// Each sample of 16 bits stands ahead of another one, and behind one.
	for x := hushed; x <= loud; x += 16 {
		undone(t, x, block(func(i int) int { return x + i }))
	}
}

// What is handed in isn't changed, and a call leaves nothing behind for the next one.
func TestNothingIsKept(t *testing.T) {
	b := all(1 << 40)
	lifted, n := tilt.Lift(5, b)
	laid, m := tilt.Lay(5, b)
	tilt.Sound(b)
	if b != all(1<<40) {
		t.Errorf("the samples are changed: %v", b)
	}
	if again, k := tilt.Lift(5, b); again != lifted || k != n {
		t.Errorf("lifted again: %v, %d, at first %v, %d", again, k, lifted, n)
	}
	if again, k := tilt.Lay(5, b); again != laid || k != m {
		t.Errorf("laid down again: %v, %d, at first %v, %d", again, k, laid, m)
	}
}
