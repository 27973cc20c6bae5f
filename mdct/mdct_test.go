package mdct_test

import (
	"math"
	"testing"

	"spool/api"
	"spool/mdct"
)

const edge = 1 << 20

// by answers x by 2^n, the nearest whole number, a half upward; the numbers here are small enough for floats to be exact.
func by(x, n int) int {
	return int(math.Floor(math.Ldexp(float64(x), -n) + 0.5))
}

// turned answers the cosine of an angle in 64th parts of two right ones, worked out apart from the program's tables.
func turned(u int) int {
	return int(math.Round(32768 * math.Cos(float64(u%128)*math.Pi/64)))
}

// faded answers the n-th number of the window, worked out apart from the program's tables.
func faded(n int) int {
	return int(math.Round(32768 * math.Sin(float64(2*n+1)*math.Pi/64)))
}

// toldWaves answers two held frames' waves, word by word as the chapter's head tells them.
func toldWaves(a, b api.Block) api.Block {
	x := append(a[:], b[:]...)
	var w api.Block
	for k := 0; k <= 15; k++ {
		sum := 0
		for n := 0; n <= 31; n++ {
			sum += by(x[n]*faded(n), 15) * turned((2*n+17)*(2*k+1))
		}
		w[k] = by(sum, 17)
	}
	return w
}

// toldBack answers the way back of held waves, word by word as the chapter's head tells it.
func toldBack(w api.Block) (first, last api.Block) {
	for n := 0; n <= 31; n++ {
		sum := 0
		for k := 0; k <= 15; k++ {
			sum += w[k] * turned((2*n+17)*(2*k+1))
		}
		x := by(by(sum, 15)*faded(n), 16)
		if n < 16 {
			first[n] = x
		} else {
			last[n-16] = x
		}
	}
	return first, last
}

// block answers a frame whose i-th number rule tells.
func block(rule func(i int) int) api.Block {
	var b api.Block
	for i := range b {
		b[i] = rule(i)
	}
	return b
}

// all answers a frame of one number.
func all(x int) api.Block {
	return block(func(int) int { return x })
}

// one answers a frame of 0s, but for x in one place.
func one(at, x int) api.Block {
	var b api.Block
	b[at] = x
	return b
}

// along answers two frames of most and its negative, of which all parts of the k-th wave's sum have one sign, so that the wave is as great as it may be.
func along(k, most int) (a, b api.Block) {
	signed := func(n int) int {
		if turned((2*n+17)*(2*k+1)) < 0 {
			return -most
		}
		return most
	}
	return block(signed), block(func(i int) int { return signed(i + 16) })
}

// frames answers frames of numbers from -most to most, the same ones each time: flat ones, steep ones, single numbers and mixed ones.
func frames(most int) []api.Block {
	list := []api.Block{
		{}, all(most), all(-most), all(1), all(-1),
		block(func(i int) int { return most - 2*most*(i%2) }),
		block(func(i int) int { return most * i / 15 }),
		block(func(i int) int { return -most * i / 15 }),
	}
	for i := range api.Frame {
		list = append(list, one(i, most), one(i, -most))
	}
	next := mixed()
	for size := most; size > 0; size /= 2 {
		list = append(list,
			block(func(int) int { return int(next()%uint64(2*size+1)) - size }),
			block(func(int) int { return size - 2*size*int(next()>>40%2) }))
	}
	return list
}

// mixed answers a row of numbers without an order to be seen, the same one each time.
func mixed() func() uint64 {
	x := uint64(88172645463325252)
	return func() uint64 {
		x ^= x << 13
		x ^= x >> 7
		x ^= x << 17
		return x
	}
}

// beyond answers the numbers that aren't held: those next to the bounds, those that a sum or a narrower number would hide, and the ends of the ints.
func beyond() []int {
	return []int{
		edge + 1, -edge - 1, 1 << 21, -(1 << 21), 1 << 32, -(1 << 32), 1<<32 + 5, 1<<48 + 1,
		1 << 62, -(1 << 62), math.MaxInt, math.MinInt, math.MinInt + 1,
	}
}

// ramp and rest are ordinary frames, whose waves and the way back were worked out apart from the program.
func ramp() api.Block { return block(func(i int) int { return 1000*i - 7000 }) }
func rest() api.Block { return block(func(i int) int { return i*i*91%2001 - 1000 }) }

var (
	rampWaves = api.Block{-4449, 8354, -3883, -2616, 2128, 1679, -1578, -1464, 1017, 1036, -891, -713, 1214, 1177, -655, -781}
	rampFirst = api.Block{-409, -1145, -1709, -2040, -2095, -1852, -1312, -497, 549, 1769, 3089, 4429, 5703, 6825, 7720, 8325}
	rampLast  = api.Block{-1023, -770, -511, -129, 375, -492, 353, 112, 101, 262, -295, 177, -46, -128, -114, -50}
)

// 4.1
func TestHeld(t *testing.T) {
	for _, b := range []api.Block{{}, all(edge), all(-edge), all(1), ramp(), rest()} {
		if !mdct.Held(b) {
			t.Errorf("%v isn't held", b)
		}
	}
	for i := range api.Frame {
		for _, x := range []int{edge, -edge, edge - 1, 1 - edge} {
			if !mdct.Held(one(i, x)) {
				t.Errorf("%d isn't held as the %d-th", x, i)
			}
		}
		for _, x := range beyond() {
			if mdct.Held(one(i, x)) {
				t.Errorf("%d is held as the %d-th", x, i)
			}
		}
	}
	// Two that are beyond either bound make no sum that isn't.
	if mdct.Held(api.Block{edge + 1, -edge - 1}) || mdct.Held(all(edge+1)) || mdct.Held(all(math.MinInt)) {
		t.Errorf("numbers beyond the bounds are held")
	}
}

// 4.1
func TestWaves(t *testing.T) {
	for _, c := range []struct{ a, b, want api.Block }{
		{api.Block{}, api.Block{}, api.Block{}}, // the chapter's example
		{ramp(), rest(), rampWaves},
		{one(0, 1), api.Block{}, api.Block{}},
		{one(0, 32768), api.Block{}, api.Block{270, -323, -207, 363, 135, -390, -59, 402, -20, -398, 98, 379, -172, -345, 239, 298}},
		{all(edge), all(edge), api.Block{-2965839, 27, 5, 0, 0, 11, 5, -11, -11, 20, 27, -16, 16, -20, 11, 0}},
		{all(-edge), all(edge), api.Block{-1891145, -1891145, 638580, 638556, -393215, -393211, 292188, 292194, -239792, -239781, 210190, 210200, -193714, -193703, 186264, 186266}},
	} {
		if got := mdct.Waves(c.a, c.b); got != c.want {
			t.Errorf("Waves(%v, %v) = %v, want %v", c.a, c.b, got, c.want)
		}
	}
}

// 4.1
func TestWavesAreAsDefined(t *testing.T) {
	list := append(frames(edge), frames(30000)...)
	for i, a := range list {
		for _, b := range []api.Block{{}, list[(i+1)%len(list)], list[(7*i+5)%len(list)]} {
			for _, c := range [][2]api.Block{{a, b}, {b, a}} {
				if got, want := mdct.Waves(c[0], c[1]), toldWaves(c[0], c[1]); got != want {
					t.Fatalf("Waves(%v, %v) = %v, want %v", c[0], c[1], got, want)
				}
			}
		}
	}
}

// 4.1: what is gathered is the most there may be.
func TestGreatestWaves(t *testing.T) {
	for k := range api.Frame {
		for _, most := range []int{edge, -edge} {
			a, b := along(k, most)
			got, want := mdct.Waves(a, b), toldWaves(a, b)
			if got != want {
				t.Errorf("Waves(%v, %v) = %v, want %v", a, b, got, want)
			}
			if got[k]/most != 3 && got[k]/most != -3 {
				t.Errorf("wave %d of %v and %v is %d", k, a, b, got[k])
			}
		}
	}
}

// 4.1
func TestWavesOfOthers(t *testing.T) {
	for i := range api.Frame {
		for _, x := range beyond() {
			far := ramp()
			far[i] = x
			for _, c := range [][2]api.Block{{far, rest()}, {rest(), far}, {far, far}, {one(i, x), {}}, {{}, one(i, x)}} {
				if got := mdct.Waves(c[0], c[1]); got != (api.Block{}) {
					t.Errorf("Waves(%v, %v) = %v, want 0s", c[0], c[1], got)
				}
			}
		}
		for _, x := range []int{edge, -edge} {
			if mdct.Waves(one(i, x), api.Block{}) == (api.Block{}) || mdct.Waves(api.Block{}, one(i, x)) == (api.Block{}) {
				t.Errorf("waves of %d as the %d-th are 0s", x, i)
			}
		}
	}
}

// 4.1
func TestBack(t *testing.T) {
	for _, c := range []struct{ w, first, last api.Block }{
		{},
		{rampWaves, rampFirst, rampLast},
		{
			one(0, 32768),
			api.Block{540, 1432, 2047, 2360, 2360, 2047, 1432, 540, -596, -1931, -3415, -4990, -6596, -8171, -9654, -10990},
			api.Block{-12125, -13017, -13632, -13945, -13945, -13632, -13017, -12125, -10990, -9654, -8171, -6596, -4990, -3415, -1931, -596},
		},
		{
			all(edge),
			api.Block{17362, -47890, 74259, -97685, 119037, -138922, 157866, -176274, 194481, -212860, 231778, -251686, 273022, -296457, 322848, -353387},
			api.Block{389887, -435312, 494654, -577304, 703421, -925371, 1435044, -3958461, -3587870, 1064288, -554643, 332690, -206555, 123905, -64572, 19155},
		},
	} {
		if first, last := mdct.Back(c.w); first != c.first || last != c.last {
			t.Errorf("Back(%v) = %v, %v, want %v, %v", c.w, first, last, c.first, c.last)
		}
	}
}

// 4.1
func TestBackIsAsDefined(t *testing.T) {
	for _, w := range append(frames(edge), frames(30000)...) {
		first, last := mdct.Back(w)
		if a, b := toldBack(w); first != a || last != b {
			t.Fatalf("Back(%v) = %v, %v, want %v, %v", w, first, last, a, b)
		}
	}
}

// 4.1
func TestBackOfOthers(t *testing.T) {
	for i := range api.Frame {
		for _, x := range beyond() {
			far := ramp()
			far[i] = x
			for _, w := range []api.Block{far, one(i, x)} {
				if first, last := mdct.Back(w); first != (api.Block{}) || last != (api.Block{}) {
					t.Errorf("Back(%v) = %v, %v, want 0s", w, first, last)
				}
			}
		}
		for _, x := range []int{edge, -edge} {
			if first, last := mdct.Back(one(i, x)); first == (api.Block{}) || last == (api.Block{}) {
				t.Errorf("the way back of %d as the %d-th is 0s", x, i)
			}
		}
	}
}

// 4.1
func TestOver(t *testing.T) {
	const most, least = 1<<31 - 1, -(1 << 31)
	for _, c := range []struct{ last, first, want int }{
		{0, 0, 0}, {3, 4, 7}, {5, -7, -2}, {-3, -4, -7},
		{most, 0, most}, {0, most, most}, {least, 0, least}, {0, least, least},
		{most - 1, 1, most}, {most, 1, most}, {1, most, most}, {most, most, most},
		{least + 1, -1, least}, {least, -1, least}, {-1, least, least}, {least, least, least},
		{most, -1, most - 1}, {least, 1, least + 1}, {most, least, -1}, {least, most, -1},
		// Each is cut first: what is beyond doesn't make up for the other one.
		{most + 1, -1, most - 1}, {-1, most + 1, most - 1}, {most + 1, 0, most},
		{least - 1, 1, least + 1}, {1, least - 1, least + 1}, {least - 1, 0, least},
		{most + 100, least - 100, -1}, {1 << 40, -(1 << 40), -1}, {1 << 40, -7, most - 7}, {-7, 1 << 40, most - 7},
		{1 << 40, 1 << 40, most}, {-(1 << 40), -(1 << 40), least}, {1 << 32, 5, most}, {5, -(1 << 32), least + 5},
		{math.MaxInt, math.MaxInt, most}, {math.MinInt, math.MinInt, least},
		{math.MaxInt, math.MinInt, -1}, {math.MinInt, math.MaxInt, -1},
		{math.MaxInt, 1, most}, {math.MinInt, -1, least}, {math.MinInt, 1, least + 1}, {1, math.MinInt, least + 1},
	} {
		for i := range api.Frame {
			if got, want := mdct.Over(one(i, c.last), one(i, c.first)), one(i, c.want); got != want {
				t.Errorf("Over of %d and %d as the %d-th is %v, want %v", c.last, c.first, i, got, want)
			}
		}
	}
	a, b := ramp(), rest()
	if got, want := mdct.Over(a, b), block(func(i int) int { return a[i] + b[i] }); got != want {
		t.Errorf("Over(%v, %v) = %v, want %v", a, b, got, want)
	}
}

// 4.2
func TestNothingIsNothing(t *testing.T) {
	var none api.Block
	first, last := mdct.Back(none)
	if !mdct.Held(none) || mdct.Waves(none, none) != none || first != none || last != none || mdct.Over(none, none) != none {
		t.Errorf("of nothing something is made")
	}
}

// kept tells whether three frames, as waves and back, laid over, are the middle one, but for 128 and a 64th part of the greatest number.
func kept(t *testing.T, a, b, c api.Block) {
	t.Helper()
	most := 0
	for i := range b {
		most = max(most, a[i], -a[i], b[i], -b[i], c[i], -c[i])
	}
	ahead, behind := mdct.Waves(a, b), mdct.Waves(b, c)
	if !mdct.Held(ahead) || !mdct.Held(behind) {
		t.Fatalf("the waves of %v, %v and %v aren't held", a, b, c)
	}
	_, last := mdct.Back(ahead)
	first, _ := mdct.Back(behind)
	for i, got := range mdct.Over(last, first) {
		if off := got - b[i]; off < -128-most/64 || off > 128+most/64 {
			t.Fatalf("of %v, %v and %v the %d-th of the middle is %d", a, b, c, i, got)
		}
	}
}

// 4.2
func TestThereAndBack(t *testing.T) {
	for _, most := range []int{1 << 16, 1 << 15, 1000, 1} {
		list := frames(most)
		for i, b := range list {
			for j, a := range list {
				kept(t, a, b, list[(5*i+3*j)%len(list)])
			}
			kept(t, api.Block{}, b, api.Block{})
			kept(t, b, b, b)
		}
	}
	// The frames around are great, and the middle one is small.
	for _, x := range []int{1 << 16, -(1 << 16)} {
		kept(t, all(x), api.Block{}, all(x))
		kept(t, all(x), all(1), all(-x))
		kept(t, all(-x), all(x), all(-x))
	}
}

// 4.2: the greatest waves that numbers up to 2^16 make are held, and lead back.
func TestGreatestThereAndBack(t *testing.T) {
	for k := range api.Frame {
		a, b := along(k, 1<<16)
		kept(t, a, b, a)
		kept(t, b, a, b)
		kept(t, a, a, b)
	}
}
