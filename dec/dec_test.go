package dec_test

import (
	"math"
	"math/bits"
	"strings"
	"testing"

	"spool/api"
	"spool/dec"
	"spool/lapl"
	"spool/level"
	"spool/rang"
	"spool/spare"
	"spool/state"
	"spool/vect"
)

const (
	fewest, greatest = 10, 32 // bytes of a packet

	memMost, memLeast   = 1<<31 - 1, -(1 << 31)
	lastMost, lastLeast = 1<<21 - 1, -(1 << 21)
	waveMost, waveLeast = 1 << 20, -(1 << 20)
	loud, hushed        = 1<<15 - 1, -(1 << 15) // the ends of sound
)

// sizes are how many waves the bands have.
var sizes = [4]int{2, 2, 4, 8}

// mixed answers a row of numbers without an order to be seen, the same one each time.
func mixed() func() uint64 {
	x := uint64(88172645463325252)
	return func() uint64 {
		x ^= x << 13
		x ^= x >> 7
		x ^= x << 17
		return x
	}
}

// below answers a number from 0 to below n.
func below(next func() uint64, n int) int {
	return int(next() >> 20 % uint64(n))
}

// someBytes answers so many bytes without an order to be seen.
func someBytes(next func() uint64, n int) string {
	text := make([]byte, n)
	for i := range text {
		text[i] = byte(next() >> 24)
	}
	return string(text)
}

// block answers a frame whose i-th number rule tells.
func block(rule func(i int) int) api.Block {
	var b api.Block
	for i := range b {
		b[i] = rule(i)
	}
	return b
}

// all answers a frame of one number.
func all(x int) api.Block {
	return block(func(int) int { return x })
}

// but answers levels with x in one place.
func but(row [4]int, at, x int) [4]int {
	row[at] = x
	return row
}

// toldDec is chapter 7's decoder, word by word.
type toldDec struct {
	text string
	code uint64
	span uint64
	gone int
}

func newToldDec(s string) *toldDec {
	d := &toldDec{text: s, span: 1<<32 - 1}
	for i := range 4 {
		d.code = d.code*256 + d.byteAt(i)
	}
	return d
}

func (d *toldDec) byteAt(i int) uint64 {
	if i < len(d.text) {
		return uint64(d.text[i])
	}
	return 0
}

func (d *toldDec) place(total int) int {
	return int(min(d.code/(d.span/uint64(total)), uint64(total-1)))
}

func (d *toldDec) take(start, width, total int) {
	step := d.span / uint64(total)
	d.code = (d.code + 1<<32 - step*uint64(start)) % (1 << 32)
	d.span = step * uint64(width)
	for d.span < 1<<24 {
		d.span = d.span * 256 % (1 << 32)
		d.code = (d.code*256 + d.byteAt(4+d.gone)) % (1 << 32)
		d.gone++
	}
}

func (d *toldDec) bits(n int) int {
	x := 0
	for had := 0; had < n; had += 8 {
		total := 1 << min(8, n-had)
		place := d.place(total)
		d.take(place, 1, total)
		x += place << had
	}
	return x
}

func (d *toldDec) used() int {
	return 8*d.gone + 32 - bits.Len64(d.span)
}

// number takes a number of chapter 8, whose cells are gone through by their widths.
func (d *toldDec) number() int {
	place := d.place(1 << 15)
	width := 5000
	around := func(k int) int { return max(width>>(k-1), 8) }
	zero := 1 << 15
	for k := 1; k <= 24; k++ {
		zero -= 2 * around(k)
	}
	if place < zero {
		d.take(0, zero, 1<<15)
		return 0
	}
	start := zero
	for k := 1; ; k++ {
		for _, v := range []int{k, -k} {
			if place < start+around(k) {
				d.take(start, around(k), 1<<15)
				return v
			}
			start += around(k)
		}
	}
}

// listed keeps what vectors answered, as there are many of them.
var listed = map[[2]int][][]int{}

// vectors answers all vectors of n numbers and k pulses, in their order: one goes ahead of another whose first number unlike its own is greater.
func vectors(n, k int) [][]int {
	if n == 0 {
		if k == 0 {
			return [][]int{{}}
		}
		return nil
	}
	if list, ok := listed[[2]int{n, k}]; ok {
		return list
	}
	var list [][]int
	for first := -k; first <= k; first++ {
		for _, others := range vectors(n-1, k-max(first, -first)) {
			list = append(list, append([]int{first}, others...))
		}
	}
	listed[[2]int{n, k}] = list
	return list
}

// price answers how many digits all numbers of vectors have.
func price(b, k int) int {
	return bits.Len(uint(len(vectors(sizes[b], k)) - 1))
}

// toldPulses answers how many pulses each band has, as chapter 11 tells it.
func toldPulses(levels [4]int, left int) [4]int {
	var k [4]int
	for {
		first := -1
		for b := range k {
			if levels[b] != 0 && k[b] < 8 && price(b, k[b]+1)-price(b, k[b]) <= left &&
				(first < 0 || 2*levels[b]-3*k[b] > 2*levels[first]-3*k[first]) {
				first = b
			}
		}
		if first < 0 {
			return k
		}
		left -= price(first, k[first]+1) - price(first, k[first])
		k[first]++
	}
}

// A tale is what was met on the way, apart from what is answered.
type tale struct {
	numbers [4]int // one a band
	used    int    // bits, behind them
	room    int    // bits for pulses
	pulses  [4]int
	told    [4]int // the numbers that the bits of the bands with pulses tell
}

// toldParts answers the levels and the waves, word by word as the chapters tell them, and what was met.
func toldParts(levels [4]int, packet string) ([4]int, api.Block, tale) {
	var met tale
	d := newToldDec(packet)
	for b := range levels {
		met.numbers[b] = d.number()
		levels[b] += met.numbers[b]
		if levels[b] < 0 {
			levels[b] = 0
		}
		if levels[b] > 20 {
			levels[b] = 20
		}
	}
	met.used = d.used()
	met.room = max(0, 8*len(packet)-40-met.used)
	met.pulses = toldPulses(levels, met.room)
	var waves api.Block
	at := 0
	for b, k := range met.pulses {
		if k != 0 {
			list := vectors(sizes[b], k)
			met.told[b] = d.bits(price(b, k))
			for i, y := range list[met.told[b]%len(list)] {
				// Go's quotient is rounded toward 0.
				waves[at+i] = y * 3 * (1 << levels[b]) / (4 * k)
			}
		}
		at += sizes[b]
	}
	return levels, waves, met
}

// by answers x by 2^n, the nearest whole number, a half upward; the numbers here are small enough for floats to be exact.
func by(x, n int) int {
	return int(math.Floor(math.Ldexp(float64(x), -n) + 0.5))
}

// cosines and window are worked out once, apart from the program's tables.
var cosines, window = func() (c [128]int, w [32]int) {
	for u := range c {
		c[u] = int(math.Round(32768 * math.Cos(float64(u)*math.Pi/64)))
	}
	for n := range w {
		w[n] = int(math.Round(32768 * math.Sin(float64(2*n+1)*math.Pi/64)))
	}
	return c, w
}()

// toldBack answers the 32 numbers of the way back.
func toldBack(w api.Block) [32]int {
	var x [32]int
	for n := range x {
		sum := 0
		for k := range w {
			sum += w[k] * cosines[(2*n+17)*(2*k+1)%128]
		}
		x[n] = by(by(sum, 15)*window[n], 16)
	}
	return x
}

// cut answers x, or the end of two that it is beyond.
func cut(x, low, high int) int {
	return max(low, min(x, high))
}

// toldDecode answers the sound, and the state behind a right one, word by word as the chapters tell them.
func toldDecode(s state.State, packet string) (api.Block, state.State) {
	levels, waves, _ := toldParts(s.Levels, packet)
	then := state.State{Levels: levels, Waves: waves}
	x := toldBack(waves)
	var sound api.Block
	ahead := s.Last
	for i := range sound {
		over := cut(s.Mem[i]+x[i], memLeast, memMost)
		ahead = cut(cut(over, lastLeast, lastMost)+27853*ahead/32768, lastLeast, lastMost)
		sound[i] = cut(ahead, hushed, loud)
		then.Mem[i] = cut(x[i+16], memLeast, memMost)
	}
	then.Last = ahead
	return sound, then
}

// A place is one number of a state: what it may be, and how it is set.
type place struct {
	name      string
	low, high int
	set       func(s *state.State, x int)
}

// places answers all numbers of a state.
func places() []place {
	var list []place
	for i := range api.Frame {
		list = append(list, place{"Mem", memLeast, memMost, func(s *state.State, x int) { s.Mem[i] = x }},
			place{"Waves", waveLeast, waveMost, func(s *state.State, x int) { s.Waves[i] = x }})
	}
	for b := range api.Bands {
		list = append(list, place{"Levels", 0, 20, func(s *state.State, x int) { s.Levels[b] = x }})
	}
	return append(list, place{"Last", lastLeast, lastMost, func(s *state.State, x int) { s.Last = x }},
		place{"Lost", 0, 255, func(s *state.State, x int) { s.Lost = x }})
}

// with answers s with x in a place.
func (p place) with(s state.State, x int) state.State {
	p.set(&s, x)
	return s
}

// bad answers numbers that the place may not have: those next to the ends, those that a narrower number would take for one it may have, and the ends of the ints.
func (p place) bad() []int {
	list := []int{p.low - 1, p.high + 1, p.low - 2, p.high + 2}
	for _, x := range []int{
		-1, 21, 256, 256 + 5, 5 - 256, 1<<16 + 5, waveMost + 1, waveLeast - 1, lastMost + 1, lastLeast - 1, memMost + 1, memLeast - 1,
		1 << 32, 1<<32 + 5, 5 - 1<<32, -(1 << 32), 1 << 62, -(1 << 62), math.MaxInt, math.MaxInt - 1, math.MinInt, math.MinInt + 1,
	} {
		if x < p.low || x > p.high {
			list = append(list, x)
		}
	}
	return list
}

// ordinary is a state each number of which is another one, behind frames that were lost.
func ordinary() state.State {
	return state.State{
		Mem:    block(func(i int) int { return 1000*i*i - 70001 }),
		Last:   -54321,
		Levels: [4]int{3, 20, 0, 11},
		Waves:  block(func(i int) int { return 40000 - 5003*i }),
		Lost:   129,
	}
}

// ends answers the states all numbers of which are the least, and the greatest.
func ends() (low, high state.State) {
	for _, p := range places() {
		low, high = p.with(low, p.low), p.with(high, p.high)
	}
	return low, high
}

// states answers right states, the same ones each time: those at the ends and mixed ones.
func states() []state.State {
	low, high := ends()
	list := []state.State{{}, low, high, ordinary(), {Lost: 255}, {Levels: [4]int{20, 20, 20, 20}}, {Mem: all(memMost), Last: lastLeast}}
	next := mixed()
	for i := range 40 {
		var s state.State
		for _, p := range places() {
			span := uint64(p.high-p.low)>>(i%20) + 1
			s = p.with(s, cut(int(next()>>8%span)-int(span/2), p.low, p.high))
		}
		list = append(list, s)
	}
	return list
}

// put puts numbers, one a band.
func put(t *testing.T, e *rang.Enc, numbers [4]int) {
	t.Helper()
	for _, v := range numbers {
		if f := lapl.Put(e, v); f != api.OK {
			t.Fatalf("Put(%d) = %d", v, f)
		}
	}
}

// coder answers a coder of that size.
func coder(t *testing.T, size int) *rang.Enc {
	t.Helper()
	e, f := rang.NewEnc(size)
	if f != api.OK {
		t.Fatalf("NewEnc(%d) = %d", size, f)
	}
	return e
}

// done answers a coder's bytes.
func done(t *testing.T, e *rang.Enc) string {
	t.Helper()
	packet, f := e.Done()
	if f != api.OK {
		t.Fatalf("Done = %d", f)
	}
	return packet
}

// A try is a packet behind levels.
type try struct {
	levels [4]int
	packet string
}

// tries answers packets of all sizes, the same ones each time: those of one byte, those of any bytes, and those with numbers as far from 0 as near.
func tries(t *testing.T, many int) []try {
	t.Helper()
	next := mixed()
	few := []int{0, 1, 2, 19, 20}
	levels := func() (row [4]int) {
		for b := range row {
			if below(next, 3) > 0 {
				row[b] = below(next, 21)
			} else {
				row[b] = few[below(next, len(few))]
			}
		}
		return row
	}
	var list []try
	for size := fewest; size <= greatest; size++ {
		for _, b := range []string{"\x00", "\xff", "\x01", "\x80", "\x7f", "\xf0", "x"} {
			list = append(list, try{levels(), strings.Repeat(b, size)}, try{[4]int{20, 20, 20, 20}, strings.Repeat(b, size)})
		}
		for range many {
			list = append(list, try{levels(), someBytes(next, size)})
		}
		for i := range many / 2 {
			e := coder(t, size)
			far := []int{2, 7, 24}[i%3]
			v := func() int { return below(next, 2*far+1) - far }
			put(t, e, [4]int{v(), v(), v(), v()})
			for e.Used()+16 <= 8*size-40 {
				e.Bits(below(next, 1<<16), 16)
			}
			list = append(list, try{levels(), done(t, e)})
		}
	}
	return list
}

// 13.1: what was worked out apart: numbers, the bits used, pulses and the vectors' numbers are remarked.
func TestParts(t *testing.T) {
	for _, c := range []struct {
		levels [4]int
		packet string
		then   [4]int
		waves  api.Block
	}{
		// Four numbers 0; no level, no pulses.
		{[4]int{}, "\x00\x00\x00\x00\x00\x00\x00\x00\x00\x00", [4]int{}, api.Block{}},
		// The same; 5 bits; pulses 8 8 7 6; the first vectors.
		{[4]int{20, 20, 20, 20}, "\x00\x00\x00\x00\x00\x00\x00\x00\x00\x00", [4]int{20, 20, 20, 20}, api.Block{-786432, 0, -786432, 0, -786432, 0, 0, 0, -786432}},
		// The same; pulses 8 0 8 8.
		{[4]int{7, 0, 20, 12}, strings.Repeat("\x00", 32), [4]int{7, 0, 20, 12}, api.Block{-96, 0, 0, 0, -786432, 0, 0, 0, -3072}},
		// -24 -24 1 -1; 29 bits; pulses 0 0 8 0; the level 1 is too little for any wave of 8 pulses.
		{[4]int{}, strings.Repeat("\xff", 10), [4]int{0, 0, 1, 0}, api.Block{}},
		// The same; pulses 0 0 3 1; vectors 18, 5.
		{[4]int{20, 20, 20, 20}, strings.Repeat("\xff", 10), [4]int{0, 0, 20, 19}, api.Block{4: -262144, 6: 262144, 7: 262144, 13: -393216}},
		// The same; pulses 0 0 8 8; vectors 1316, and 172894 of 157184.
		{[4]int{20, 20, 20, 20}, strings.Repeat("\xff", 32), [4]int{0, 0, 20, 19}, api.Block{4: 393216, 6: 196608, 7: 196608, 8: -98304, 10: 98304, 14: -147456, 15: 49152}},
		// 5 3 -3 -3; 20 bits; pulses 8 8 0 0; vectors 24, 6.
		{[4]int{2, 1, 2, 2}, "\xf6\xcd\xd1\x80\x0c\x04\x48\x74\xa5\xc6", [4]int{7, 4, 0, 0}, api.Block{48, 48, -7, 4}},
		// 4 -1 2 3; 16 bits; pulses 4 2 3 3; vectors 7, 7, 21, 125.
		{[4]int{20, 20, 20, 19}, "\xee\x15\x42\x8e\x3b\x84\xb0\xb7\x9d\x64", [4]int{20, 19, 20, 20}, api.Block{0, -786432, 393216, 0, -262144, 262144, 0, -262144, 0, -524288, 262144}},
		// -1 0 -1 4; 12 bits; pulses 1 0 4 8; vectors 2, 50, 76170.
		{[4]int{11, 9, 16, 20}, "\x93\x66\xba\x7b\xde\xa7\xcb\x23\xad\x1a", [4]int{10, 9, 15, 20}, api.Block{0, 768, 0, 0, -6144, 6144, -12288, 0, 0, 0, 0, -294912, 0, 98304, 196608, 196608}},
		// 0 3 0 4; 13 bits; pulses 2 1 2 7; vectors 7, 2, 20, 3961.
		{[4]int{12, 8, 12, 20}, "\x53\xf2\xa4\x84\x5e\xa3\x3a\x03\x16\x9b", [4]int{12, 11, 12, 20}, api.Block{3072, 0, 0, 1536, 0, 1536, -1536, 0, -224694, 0, -112347, 0, 0, -224694, 0, -224694}},
		// 2 2 0 -2; 12 bits; pulses 8 8 4 8; vectors 12, 17, 206 of 192, 15711.
		{[4]int{10, 8, 3, 17}, "\xbe\x37\x14\x87\x91\x98\x95\x7d\x32\x5f\xc9", [4]int{12, 10, 3, 15}, api.Block{-768, 2304, 96, -672, -3, 0, -1, 1, -6144, 0, 6144, 0, 0, 0, -6144, -6144}},
		// -2 -5 2 3; 18 bits; pulses 1 4 5 6; vectors 3, 6, 360 of 360, 19189.
		{[4]int{10, 17, 13, 13}, "\xd6\xd5\x72\x4a\x31\x5f\x6c\xae\x7e\xd3\x52", [4]int{8, 12, 15, 16}, api.Block{192, 0, -768, 2304, -24576, 0, 0, 0, 0, 16384, 0, 16384, 0, 0, -8192, -8192}},
		// -1 1 -1 -2; 11 bits; pulses 2 2 4 6; vectors 0, 5, 191 of 192, 807.
		{[4]int{10, 8, 12, 18}, "\x9c\x20\x87\x38\x3b\xe8\x7d\x6c\xda\xc9", [4]int{9, 9, 11, 16}, api.Block{-384, 0, 192, -192, 1536, 0, 0, 0, -16384, -8192, 0, 0, 0, 0, 8192, -16384}},
		// -2 1 3 1; 13 bits; pulses 0 1 8 5; vectors 1, 319, 14020 of 9424.
		{[4]int{4, 2, 15, 9}, "\xcd\xe3\x2f\xfc\x3c\x2f\x46\x7e\x8e\xd8", [4]int{2, 3, 18, 10}, api.Block{0, 0, 0, -6, -49152, 24576, -73728, -49152, 0, 0, 0, 0, -153, -460, -153, 0}},
		// -4 -4 -5 -1; 20 bits; pulses 8 0 8 1; vectors 28, 1165, 0.
		{[4]int{8, 5, 19, 5}, "\xf4\x73\x10\xb5\xd1\x18\xaf\xb1\x5f\xa0", [4]int{4, 1, 14, 4}, api.Block{9, 3, 0, 0, 3072, 6144, -1536, -1536, -12}},
		// 1 0 0 0; 6 bits; pulses 8 8 8 8; vectors 22, 22, 267, 29524.
		{[4]int{7, 20, 19, 13}, "\x63\xbf\xb3\x7f\xe2\x2d\x60\x10\x37\x77\xf5\x81\x97", [4]int{8, 20, 19, 13}, api.Block{72, 120, 294912, 491520, -98304, -98304, 98304, -98304, -768, 0, -1536, -2304, 0, 768, -768, 0}},
		// 2 -1 0 1; 10 bits; pulses 8 8 8 8; vectors 4, 1, 596, 240754 of 157184.
		{[4]int{18, 14, 11, 16}, "\xbb\x3d\xac\x8e\xa3\xcf\x4e\x9d\xed\x3b\x82\xc4\x22\x44\xdf\x3d\x8c\x79\x59\x92\x9a\x64\x47\x2e\x3a\xfa\x83\xad\xc5\xcf\x62", [4]int{20, 13, 11, 17}, api.Block{-589824, 196608, -5376, -768, 0, -960, 192, 384, 0, 0, 12288, 0, 24576, -24576, 24576, 12288}},
		// 0 -1 0 2; 9 bits; pulses 8 8 8 8; vectors 29, 17, 1594 of 1408, 119535.
		{[4]int{3, 10, 16, 5}, "\x39\x00\x4a\x4d\x31\x20\x8c\x2f\xf3\x57\x90\xd7\xdc\x3c\x72\xd1\x80\xf0\x97\xfc\xf5\xc5\xba\xf5\x5c\x8e\x8d\x1e\x06\x0f\x20\x72", [4]int{3, 9, 16, 7}, api.Block{5, 0, 48, -336, -18432, 0, 18432, 12288, 12, 0, -12, -24, 36, 0, 12, 0}},
	} {
		then, waves, e := dec.Parts(c.levels, c.packet)
		if then != c.then || waves != c.waves || e != api.OK {
			t.Errorf("Parts(%v, %x) = %v, %v, %d, want %v, %v", c.levels, c.packet, then, waves, e, c.then, c.waves)
		}
	}
}

// seen is what a row of packets must have met, so that holding them against the chapters' words tells something.
type seen struct {
	pulses          map[[2]int]int // packets, by a band and its pulses
	rest            map[[2]int]int // those in which the bits told a number that no vector has
	under, over     [4]int         // levels below 0, and above 20
	tight, roomless int            // fewer pulses than by the packet's size alone; no room
}

// add adds a packet's tale.
func (s *seen) add(try try, then [4]int, met tale) {
	for b, k := range met.pulses {
		s.pulses[[2]int{b, k}]++
		if many := len(vectors(sizes[b], k)); k != 0 && met.told[b] >= many {
			s.rest[[2]int{b, k}]++
		}
		if level := try.levels[b] + met.numbers[b]; level < 0 {
			s.under[b]++
		} else if level > 20 {
			s.over[b]++
		}
	}
	if met.pulses != toldPulses(then, 8*len(try.packet)-40) {
		s.tight++
	}
	if met.room == 0 {
		s.roomless++
	}
}

// miss tells what the packets haven't met.
func (s *seen) miss(t *testing.T) {
	t.Helper()
	// A pulse that costs no bits more is always given, so that some counts are never met.
	for b, counts := range [4][]int{{0, 1, 2, 4, 8}, {0, 1, 2, 4, 8}, {0, 1, 2, 3, 4, 5, 7, 8}, {0, 1, 2, 3, 4, 5, 6, 7, 8}} {
		for _, k := range counts {
			many := len(vectors(sizes[b], k))
			if s.pulses[[2]int{b, k}] == 0 || many&(many-1) != 0 && s.rest[[2]int{b, k}] == 0 {
				t.Errorf("band %d was met %d times with %d pulses, %d of them with a rest", b, s.pulses[[2]int{b, k}], k, s.rest[[2]int{b, k}])
			}
		}
		if s.under[b] == 0 || s.over[b] == 0 {
			t.Errorf("band %d's level was below 0 %d times, above 20 %d times", b, s.under[b], s.over[b])
		}
	}
	if s.tight == 0 || s.roomless == 0 {
		t.Errorf("tight %d times, without room %d times", s.tight, s.roomless)
	}
}

// 13.1: packets of all sizes behind all kinds of levels, against the chapters' words.
func TestPartsAsTold(t *testing.T) {
	met := seen{pulses: map[[2]int]int{}, rest: map[[2]int]int{}}
	for _, x := range tries(t, 200) {
		wantThen, wantWaves, tale := toldParts(x.levels, x.packet)
		met.add(x, wantThen, tale)
		then, waves, e := dec.Parts(x.levels, x.packet)
		if then != wantThen || waves != wantWaves || e != api.OK {
			t.Fatalf("Parts(%v, %x) = %v, %v, %d, want %v, %v", x.levels, x.packet, then, waves, e, wantThen, wantWaves)
		}
	}
	met.miss(t)
}

// 13.1: each number, in each band, behind levels at and near the ends; the other bands have numbers unlike each other.
func TestANumberOfEachBand(t *testing.T) {
	others := [4]int{3, -2, 1, -4}
	for b := range 4 {
		for v := -24; v <= 24; v++ {
			e := coder(t, fewest)
			put(t, e, but(others, b, v))
			packet := done(t, e)
			for _, from := range []int{0, 1, 10, 19, 20} {
				levels := but([4]int{10, 10, 10, 10}, b, from)
				want := but([4]int{13, 8, 11, 6}, b, cut(from+v, 0, 20))
				then, waves, f := dec.Parts(levels, packet)
				if then != want || f != api.OK {
					t.Errorf("%d in band %d: Parts(%v, %x) = %v, %d, want %v", v, b, levels, packet, then, f, want)
				}
				if _, wantWaves, _ := toldParts(levels, packet); waves != wantWaves {
					t.Errorf("Parts(%v, %x): waves %v, want %v", levels, packet, waves, wantWaves)
				}
			}
		}
	}
}

// written writes a packet: numbers, and of each band that has pulses then what tell answers of them; and answers the waves that it says.
func written(t *testing.T, levels [4]int, size int, numbers [4]int, tell func(b, many, bits int) int) (string, [4]int, api.Block) {
	t.Helper()
	e := coder(t, size)
	put(t, e, numbers)
	for b := range levels {
		levels[b] = cut(levels[b]+numbers[b], 0, 20)
	}
	var waves api.Block
	for b, k := range spare.Pulses(levels, spare.Room(size, e.Used())) {
		if k == 0 {
			continue
		}
		many, n := vect.Count(sizes[b], k), vect.Bits(sizes[b], k)
		x := tell(b, many, n)
		if f := e.Bits(x, n); f != api.OK {
			t.Fatalf("Bits(%d, %d) = %d", x, n, f)
		}
		if x >= many {
			x -= many
		}
		y, f := vect.Vector(sizes[b], k, x)
		if f != api.OK {
			t.Fatalf("Vector(%d, %d, %d) = %d", sizes[b], k, x, f)
		}
		waves = level.Put(waves, b, level.Fill(levels[b], y))
	}
	return done(t, e), levels, waves
}

// 13.1: the vector whose number the bits tell, the first, the last, and those whose number is as great as there are vectors, and greater, shapes the band, by chapter 6's Fill; a band without pulses has 0s.
func TestVectorsOfWhatIsWritten(t *testing.T) {
	next := mixed()
	var first, last, exact, beyond [4]int
	count := func(b, many, x int) {
		switch {
		case x == 0:
			first[b]++
		case x == many-1:
			last[b]++
		case x == many:
			exact[b]++
		case x > many:
			beyond[b]++
		}
	}
	tells := []func(b, many, n int) int{
		func(b, many, n int) int { return 0 },
		func(b, many, n int) int { return many - 1 },
		func(b, many, n int) int { return min(many, 1<<n-1) },
		func(b, many, n int) int { return min(many+1, 1<<n-1) },
		func(b, many, n int) int { return 1<<n - 1 },
		func(b, many, n int) int { return below(next, 1<<n) },
		func(b, many, n int) int { return below(next, 1<<n) * (b % 2) },
	}
	for size := fewest; size <= greatest; size++ {
		for i := range 40 {
			far := 1 + below(next, 24)
			var levels, numbers [4]int
			for b := range levels {
				levels[b] = below(next, 21)
				numbers[b] = below(next, 2*far+1) - far
			}
			packet, wantThen, wantWaves := written(t, levels, size, numbers, func(b, many, n int) int {
				x := tells[i%len(tells)](b, many, n)
				count(b, many, x)
				return x
			})
			then, waves, e := dec.Parts(levels, packet)
			if then != wantThen || waves != wantWaves || e != api.OK {
				t.Fatalf("Parts(%v, %x) = %v, %v, %d, want %v, %v", levels, packet, then, waves, e, wantThen, wantWaves)
			}
		}
	}
	for b := range 4 {
		// The first two bands have as many vectors as their bits tell numbers.
		if first[b] == 0 || last[b] == 0 || b >= 2 && (exact[b] == 0 || beyond[b] == 0) {
			t.Errorf("band %d: first %d, last %d, exact %d, beyond %d", b, first[b], last[b], exact[b], beyond[b])
		}
	}
}

// 13.1: each number that the bits may tell, of bands that few bits are enough for.
func TestEachVector(t *testing.T) {
	for _, c := range []struct {
		levels [4]int
		size   int
		band   int
		n      int // bits of the vector's number
	}{
		{[4]int{9}, 10, 0, 5},
		{[4]int{0, 14}, 10, 1, 5},
		{[4]int{0, 0, 20}, 10, 2, 11},
	} {
		for x := range 1 << c.n {
			packet, wantThen, wantWaves := written(t, c.levels, c.size, [4]int{}, func(b, many, n int) int {
				if b != c.band || n != c.n {
					t.Fatalf("band %d has %d bits", b, n)
				}
				return x
			})
			then, waves, e := dec.Parts(c.levels, packet)
			if then != wantThen || waves != wantWaves || e != api.OK {
				t.Fatalf("Parts(%v, %x) = %v, %v, %d, want %v, %v", c.levels, packet, then, waves, e, wantThen, wantWaves)
			}
		}
	}
}

// noSizes answers texts of all sizes up to 300 that no packet has, and of greater ones, among them those that a narrower number would take for a packet's.
func noSizes() []string {
	var list []string
	for n := range 300 {
		if n < fewest || n > greatest {
			list = append(list, strings.Repeat("\x00", n), strings.Repeat("\xa7", n))
		}
	}
	for _, n := range []int{1<<16 - 1, 1 << 16, 1<<16 + 10, 1<<16 + 32, 1<<20 + 20} {
		list = append(list, strings.Repeat("x", n))
	}
	return list
}

// 13.1: another size is told ahead of levels that may not be, and nothing is handed out.
func TestPartsOfOtherSizes(t *testing.T) {
	for _, levels := range [][4]int{{}, {20, 20, 20, 20}, {7, 0, 3, 12}, {-1}, {0, 21}, {0, 0, math.MinInt}, {0, 0, 0, math.MaxInt}} {
		for _, packet := range noSizes() {
			if then, waves, e := dec.Parts(levels, packet); then != [4]int{} || waves != (api.Block{}) || e != api.ErrSize {
				t.Errorf("Parts(%v, %d bytes) = %v, %v, %d", levels, len(packet), then, waves, e)
			}
		}
	}
	for size := fewest; size <= greatest; size++ {
		if _, _, e := dec.Parts([4]int{}, strings.Repeat("x", size)); e != api.OK {
			t.Errorf("Parts of %d bytes: %d", size, e)
		}
	}
}

// 13.1: levels from 0 to 20 in each band, and others, behind which nothing is handed out.
func TestPartsOfLevels(t *testing.T) {
	next := mixed()
	for _, size := range []int{fewest, 11, 20, greatest} {
		packet := someBytes(next, size)
		for b := range 4 {
			for _, row := range [][4]int{{}, {20, 20, 20, 20}, {5, 17, 1, 9}} {
				for x := 0; x <= 20; x++ {
					wantThen, wantWaves, _ := toldParts(but(row, b, x), packet)
					if then, waves, e := dec.Parts(but(row, b, x), packet); then != wantThen || waves != wantWaves || e != api.OK {
						t.Errorf("Parts(%v, %x) = %v, %v, %d, want %v, %v", but(row, b, x), packet, then, waves, e, wantThen, wantWaves)
					}
				}
				for _, x := range (place{low: 0, high: 20}).bad() {
					if then, waves, e := dec.Parts(but(row, b, x), packet); then != [4]int{} || waves != (api.Block{}) || e != api.ErrArg {
						t.Errorf("Parts(%v, %x) = %v, %v, %d", but(row, b, x), packet, then, waves, e)
					}
				}
			}
		}
	}
}

// 13.1: two levels that may not be don't make up for each other.
func TestPartsOfTwoWrongLevels(t *testing.T) {
	for b := range 4 {
		for c := range 4 {
			if levels := but(but([4]int{3, 3, 3, 3}, b, -1), c, 21); b != c {
				if then, waves, e := dec.Parts(levels, strings.Repeat("x", 16)); then != [4]int{} || waves != (api.Block{}) || e != api.ErrArg {
					t.Errorf("Parts(%v) = %v, %v, %d", levels, then, waves, e)
				}
			}
		}
	}
}

// 13.2: what was worked out apart: packets one behind the other.
func TestDecode(t *testing.T) {
	var s state.State
	for _, c := range []struct {
		packet string
		sound  api.Block
		then   state.State
	}{
		{"\x86\x4e\xd2\xc0\xfa\x8e\xb0\x64\x18\xbe", api.Block{0, 1, 1, -2, -2, -4, -4, -9, 0, 2, 6, 8, 11, 3, -3, -9}, state.State{Mem: api.Block{8, -14, 16, 7, -7, 12, -10, -3, -2, -7, 7, -3, 2, 4, -2, 0}, Last: -9, Levels: [4]int{1, 4, 0, 6}, Waves: api.Block{0, 1, 0, 12, 0, 0, 0, 0, 0, 8, 0, -8, -16, -8, 0, 8}}},
		{"\xfa\x76\xce\x61\xbc\xbb\xa7\x9b\xef\x5a\xc8\x68\x98\x1a\x4b\xde\x00\xa3\x6c\xd0\xa1\x93\xd0\xcb\xaa\x58\xaa\xf4\xd9\x9d\xb9\xc6", api.Block{6, -21, -3, 15, 9, -12, -46, 40, -59, -22, 41, 22, -8, 8, 87, -33}, state.State{Mem: api.Block{94, 52, 76, -57, 188, -33, 16, 38, 34, 12, -20, 89, -20, 19, 8, 5}, Last: -33, Levels: [4]int{7, 6, 3, 9}, Waves: api.Block{-84, -12, 18, 30, -6, 0, 0, 0, 0, -144, 0, 0, 48, 0, 144, 48}}},
		{"\xec\xbb\x9c\x5c\xbe\x96\xfb\xbf\x03\x3e\x69", api.Block{72, 54, 89, -6, 170, -73, -154, -11, -64, 104, 375, 435, 416, 499, 830, 588}, state.State{Mem: api.Block{-45, -6, -463, -209, -615, -550, -857, -355, -322, -636, -330, -291, -75, -116, -1, -2}, Last: 588, Levels: [4]int{11, 6, 9, 10}, Waves: api.Block{768, 768, 36, -12, -96, 0, -192, -96, 0, -307, 0, 0, 0, -307, -153, 0}}},
		{"\x55\xba\xe5\x5f\x08\x48\xdd\x33\x30\x45", api.Block{476, 478, 69, 41, -394, -749, -1388, -1518, -1630, -2163, -2393, -2720, -2924, -3103, -3174, -3148}, state.State{Mem: api.Block{-443, -406, -424, -471, -425, -543, -560, -572, -519, -416, -326, -201, -168, -106, -60, -22}, Last: -3148, Levels: [4]int{11, 9, 7, 7}, Waves: api.Block{1344, -192, 288, 96, -32, 64, 0, 0, 0, -32, 0, 0, 0, 64, 0, 0}}},
		{"\xe0\xc8\xf8\xf1\xd3\x94\xdc\x7e\xbe\xa0\x87\xf9\xb4\xf7\xa7\x2f", api.Block{-3033, -2913, -2749, -2255, -1142, 114, 1013, 923, -434, -2776, -5399, -7325, -7938, -7455, -6876, -7590}, state.State{Mem: api.Block{-4483, -7454, -9549, -9474, -7400, -3944, -655, 1095, 993, -485, -2364, -3500, -3390, -2392, -1106, -220}, Last: -7590, Levels: [4]int{14, 14, 10, 8}, Waves: api.Block{10752, -1536, -4608, -7680, -672, 96, 0, 0, 0, 48, 24, 0, 48, 0, -48, -24}}},
		{"\xdb\xaa\x04\x5c\x7a\x11\x3b\x0f\x66\x2a", api.Block{-12109, -20741, -32768, -32768, -32768, -32768, -32768, -32768, -32768, -25807, -1809, 22140, 32767, 32767, 32767, 32767}, state.State{Mem: api.Block{30156, 34257, 40144, 43525, 38247, 34896, 27742, 22764, 20633, 20575, 20916, 18089, 15573, 10056, 5082, 1482}, Last: 81135, Levels: [4]int{17, 15, 10, 13}, Waves: api.Block{-86016, 12288, -6144, 18432, 384, 0, 384, 0, 0, 0, 2048, 0, -2048, 0, 0, -2048}}},
	} {
		sound, then, e := dec.Decode(s, c.packet)
		if sound != c.sound || then != c.then || e != api.OK {
			t.Errorf("Decode(%v, %x) = %v, %v, %d, want %v, %v", s, c.packet, sound, then, e, c.sound, c.then)
		}
		s = c.then
	}
}

// asTold holds Decode against the chapters' words, and against Next of what Parts answers, with no frame lost; and what it makes against what 13.3 says of it.
func asTold(t *testing.T, s state.State, packet string) (api.Block, state.State) {
	t.Helper()
	sound, then, e := dec.Decode(s, packet)
	wantSound, wantThen := toldDecode(s, packet)
	if sound != wantSound || then != wantThen || e != api.OK {
		t.Fatalf("Decode(%v, %x) = %v, %v, %d, want %v, %v", s, packet, sound, then, e, wantSound, wantThen)
	}
	levels, waves, e := dec.Parts(s.Levels, packet)
	nextSound, nextThen := state.Next(s, levels, waves, 0)
	if sound != nextSound || then != nextThen || e != api.OK || then.Lost != 0 {
		t.Fatalf("Decode(%v, %x) = %v, %v, but Next of its parts (%d) is %v, %v", s, packet, sound, then, e, nextSound, nextThen)
	}
	if !state.Right(then) {
		t.Fatalf("what Decode makes of %v and %x isn't right: %v", s, packet, then)
	}
	for _, x := range sound {
		if x < hushed || x > loud {
			t.Fatalf("%x sounds behind %v like %v", packet, s, sound)
		}
	}
	return sound, then
}

// 13.2, 13.3: packets of all sizes behind the zero state, those at the ends, and others, with and without frames lost.
func TestDecodeAsTold(t *testing.T) {
	list := tries(t, 6)
	for i, s := range states() {
		for j := range list {
			// Each state has packets of its own, and some that all have.
			if j%16 == i%16 || j < 20 {
				asTold(t, s, list[j].packet)
			}
		}
	}
}

// 13.2, 13.3: of states one number of which is at an end.
func TestDecodeBehindEachEnd(t *testing.T) {
	next := mixed()
	for _, p := range places() {
		for _, s := range []state.State{{}, ordinary()} {
			for _, x := range []int{p.low, p.high, 0} {
				asTold(t, p.with(s, x), someBytes(next, fewest+below(next, 23)))
			}
		}
	}
}

// 13.3: many packets in a row, of each size and of all, of any bytes, of one byte, and such as make all levels rise or fall.
func TestManyPacketsInARow(t *testing.T) {
	next := mixed()
	low, high := ends()
	var most, least int
	follow := func(s state.State, many int, packet func(i int) string) {
		for i := range many {
			var sound api.Block
			sound, s = asTold(t, s, packet(i))
			for _, x := range sound {
				most, least = max(most, x), min(least, x)
			}
		}
	}
	for size := fewest; size <= greatest; size++ {
		follow(state.State{}, 20, func(int) string { return someBytes(next, size) })
	}
	for _, s := range []state.State{{}, low, high, ordinary()} {
		follow(s, 100, func(int) string { return someBytes(next, fewest+below(next, 23)) })
		for _, b := range []string{"\x00", "\xff", "\x80", "\xc0"} {
			follow(s, 20, func(i int) string { return strings.Repeat(b, fewest+i) })
		}
		for _, v := range []int{24, -24, 3, -1} {
			follow(s, 20, func(i int) string {
				packet, _, _ := written(t, [4]int{20, 20, 20, 20}, fewest+i, [4]int{v, v, v, v}, func(b, many, n int) int { return below(next, many) })
				return packet
			})
		}
	}
	if most != loud || least != hushed {
		t.Errorf("what was heard is from %d to %d: no sound was as loud as can be", least, most)
	}
}

// 13.3: each byte in each place of a packet.
func TestEachByte(t *testing.T) {
	next := mixed()
	low, high := ends()
	for i := range fewest {
		for b := range 256 {
			text := []byte(someBytes(next, fewest))
			text[i] = byte(b)
			asTold(t, []state.State{{}, low, high, ordinary()}[b%4], string(text))
		}
	}
}

// 13.2: another size is told ahead of a state that isn't right, and nothing is handed out.
func TestDecodeOfOtherSizes(t *testing.T) {
	low, high := ends()
	for _, s := range []state.State{{}, low, high, ordinary(), {Lost: -1}, {Last: lastMost + 1}, {Mem: all(math.MinInt)}, {Levels: [4]int{0, 21}}, {Waves: all(waveMost + 1)}} {
		for _, packet := range noSizes() {
			if sound, then, e := dec.Decode(s, packet); sound != (api.Block{}) || then != (state.State{}) || e != api.ErrSize {
				t.Errorf("Decode(%v, %d bytes) = %v, %v, %d", s, len(packet), sound, then, e)
			}
		}
	}
	for size := fewest; size <= greatest; size++ {
		if _, _, e := dec.Decode(ordinary(), strings.Repeat("x", size)); e != api.OK {
			t.Errorf("Decode of %d bytes: %d", size, e)
		}
	}
}

// 13.2: states that aren't right, by one number; nothing is handed out.
func TestDecodeOfNoState(t *testing.T) {
	for _, p := range places() {
		for _, s := range []state.State{{}, ordinary()} {
			for _, x := range p.bad() {
				for _, size := range []int{fewest, greatest} {
					if sound, then, e := dec.Decode(p.with(s, x), strings.Repeat("x", size)); sound != (api.Block{}) || then != (state.State{}) || e != api.ErrArg {
						t.Errorf("Decode with %d in %s: %v, %v, %d", x, p.name, sound, then, e)
					}
				}
			}
		}
	}
}

// 13.1, 13.2: what is answered hangs on the arguments alone, whatever was asked ahead of it.
func TestEachCallAlone(t *testing.T) {
	list := tries(t, 2)
	type answer struct {
		levels [4]int
		waves  api.Block
		sound  api.Block
		then   state.State
	}
	ask := func(x try) (a answer) {
		s := ordinary()
		s.Levels = x.levels
		a.levels, a.waves, _ = dec.Parts(x.levels, x.packet)
		a.sound, a.then, _ = dec.Decode(s, x.packet)
		return a
	}
	var first []answer
	for _, x := range list {
		first = append(first, ask(x))
	}
	for i := len(list) - 1; i >= 0; i-- {
		dec.Parts([4]int{-1}, list[i].packet)
		dec.Decode(state.State{}, "short")
		if got := ask(list[i]); got != first[i] {
			t.Errorf("%v and %x: %v, and at first %v", list[i].levels, list[i].packet, got, first[i])
		}
	}
}

// The chapter's example, 13.2: ten zero bytes behind the zero state are no sound; nor are more.
func TestExample(t *testing.T) {
	var s state.State
	for size := fewest; size <= greatest; size++ {
		for range 3 {
			sound, then, e := dec.Decode(s, strings.Repeat("\x00", size))
			if sound != (api.Block{}) || then != (state.State{}) || e != api.OK {
				t.Fatalf("Decode of %d zero bytes = %v, %v, %d", size, sound, then, e)
			}
			s = then
		}
	}
}
