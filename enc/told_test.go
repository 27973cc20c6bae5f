package enc_test

import (
	"math"
	"math/big"
	"math/bits"
	"slices"
	"strings"

	"spool/api"
)

// sizes are how many waves the bands have.
var sizes = [4]int{2, 2, 4, 8}

// toldCoder is chapter 7's coder, word by word, its low a number of any size.
type toldCoder struct {
	low  *big.Int
	span int
	gone int
}

func newToldCoder() *toldCoder {
	return &toldCoder{low: new(big.Int), span: 1<<32 - 1}
}

func (c *toldCoder) put(start, width, total int) {
	step := c.span / total
	c.low.Add(c.low, big.NewInt(int64(step*start)))
	for c.span = step * width; c.span < 1<<24; c.gone++ {
		c.low.Lsh(c.low, 8)
		c.span *= 256
	}
}

func (c *toldCoder) bits(x, n int) {
	for ; n > 0; n -= 8 {
		total := 1 << min(8, n)
		c.put(x%total, 1, total)
		x /= 256
	}
}

func (c *toldCoder) used() int {
	return 8*c.gone + 32 - bits.Len(uint(c.span))
}

// number puts a number of chapter 8, whose cells are gone through by their widths.
func (c *toldCoder) number(v int) {
	around := func(k int) int { return max(5000>>(k-1), 8) }
	start, width := 0, 1<<15
	for k := 1; k <= 24; k++ {
		width -= 2 * around(k)
	}
	for at := 0; at != v; {
		start += width
		if at = -at; at >= 0 {
			at++
		}
		width = around(max(at, -at))
	}
	c.put(start, width, 1<<15)
}

// done answers the coder's bytes: the zero ones at the end fall away, and as many are laid behind as there is room for.
func (c *toldCoder) done(size int) string {
	text := strings.TrimRight(string(c.low.FillBytes(make([]byte, 4+c.gone))), "\x00")
	return text + strings.Repeat("\x00", max(0, size-len(text)))
}

// listed keeps what vectors answered, as there are many of them.
var listed = map[[2]int][][]int{}

// vectors answers all vectors of n numbers and k pulses, in their order.
func vectors(n, k int) [][]int {
	if n == 0 {
		if k == 0 {
			return [][]int{{}}
		}
		return nil
	}
	if list, ok := listed[[2]int{n, k}]; ok {
		return list
	}
	var list [][]int
	for first := -k; first <= k; first++ {
		for _, others := range vectors(n-1, k-unsigned(first)) {
			list = append(list, append([]int{first}, others...))
		}
	}
	listed[[2]int{n, k}] = list
	return list
}

// price answers how many digits all numbers of a band's vectors have.
func price(b, k int) int {
	return bits.Len(uint(len(vectors(sizes[b], k)) - 1))
}

// toldPulses answers how many pulses each band has, as chapter 11 tells it.
func toldPulses(levels [4]int, left int) [4]int {
	var k [4]int
	for {
		first := -1
		for b := range k {
			if levels[b] != 0 && k[b] < 8 && price(b, k[b]+1)-price(b, k[b]) <= left &&
				(first < 0 || 2*levels[b]-3*k[b] > 2*levels[first]-3*k[first]) {
				first = b
			}
		}
		if first < 0 {
			return k
		}
		left -= price(first, k[first]+1) - price(first, k[first])
		k[first]++
	}
}

// toldFind answers the pulses of waves, as chapter 10 tells them: a and q are summed anew for each pulse.
func toldFind(c []int, k int) []int {
	y := make([]int, len(c))
	for range k {
		a, q := 0, 0
		for i, wave := range c {
			a += unsigned(wave) * y[i]
			q += y[i] * y[i]
		}
		first, top, under := 0, -1, 1
		for i, wave := range c {
			// Two quotients are held against each other as products, which are below 2^60 here.
			if square, by := (a+unsigned(wave))*(a+unsigned(wave)), q+2*y[i]+1; square*under > top*by {
				first, top, under = i, square, by
			}
		}
		y[first]++
	}
	for i, wave := range c {
		if wave < 0 {
			y[i] = -y[i]
		}
	}
	return y
}

// by answers x by 2^n, the nearest whole number, a half upward; the numbers here are small enough for floats to be exact.
func by(x, n int) int {
	return int(math.Floor(math.Ldexp(float64(x), -n) + 0.5))
}

// cosines and window are worked out once, apart from the program's tables.
var cosines, window = func() (c [128]int, w [32]int) {
	for u := range c {
		c[u] = int(math.Round(32768 * math.Cos(float64(u)*math.Pi/64)))
	}
	for n := range w {
		w[n] = int(math.Round(32768 * math.Sin(float64(2*n+1)*math.Pi/64)))
	}
	return c, w
}()

// turned answers the cosine of the n-th number in the k-th wave.
func turned(n, k int) int {
	return cosines[(2*n+17)*(2*k+1)%128]
}

// toldWaves answers two frames' waves, as chapter 4 tells them.
func toldWaves(a, b api.Block) api.Block {
	x := append(a[:], b[:]...)
	var w api.Block
	for k := range w {
		sum := 0
		for n := range x {
			sum += by(x[n]*window[n], 15) * turned(n, k)
		}
		w[k] = by(sum, 17)
	}
	return w
}

// toldLevels answers the bands' levels, as chapter 6 tells them.
func toldLevels(w api.Block) [4]int {
	var levels [4]int
	at := 0
	for b, n := range sizes {
		sum := 0
		for _, x := range w[at : at+n] {
			sum += unsigned(x)
		}
		levels[b] = min(bits.Len(uint(sum)), 20)
		at += n
	}
	return levels
}

// toldLift answers a frame of samples of 16 bits lifted, as chapter 5 tells it.
func toldLift(last int, b api.Block) api.Block {
	for i, x := range b {
		// Go's quotient is rounded toward 0.
		b[i] = x - 27853*last/32768
		last = x
	}
	return b
}

// A tale is what was met on the way, apart from what is answered.
type tale struct {
	lifted  api.Block
	waves   api.Block
	levels  [4]int
	numbers [4]int // what is put of the levels
	used    int    // bits, behind them
	room    int    // bits for pulses
	pulses  [4]int
	told    [4]int // the numbers of the vectors of the bands with pulses
}

// toldPacket answers a frame's packet behind the last frame lifted, the last sample and the levels ahead, as the chapters tell it word by word, and what was met.
func toldPacket(prev api.Block, last int, ahead [4]int, b api.Block, size int) (string, tale) {
	met := tale{lifted: toldLift(last, b)}
	met.waves = toldWaves(prev, met.lifted)
	met.levels = toldLevels(met.waves)
	c := newToldCoder()
	for b := range ahead {
		met.numbers[b] = met.levels[b] - ahead[b]
		c.number(met.numbers[b])
	}
	met.used = c.used()
	met.room = max(0, 8*size-40-met.used)
	met.pulses = toldPulses(met.levels, met.room)
	at := 0
	for b, k := range met.pulses {
		if k != 0 {
			var near []int
			for _, x := range met.waves[at : at+sizes[b]] {
				near = append(near, max(-(1<<20), min(x, 1<<20)))
			}
			met.told[b], _ = slices.BinarySearchFunc(vectors(sizes[b], k), toldFind(near, k), slices.Compare)
			c.bits(met.told[b], price(b, k))
		}
		at += sizes[b]
	}
	return c.done(size), met
}

// unsigned answers x without its sign.
func unsigned(x int) int {
	return max(x, -x)
}
