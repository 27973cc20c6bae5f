package state_test

import (
	"encoding/binary"
	"math"
	"strings"
	"testing"

	"spool/api"
	"spool/state"
)

const (
	memMost, memLeast   = 1<<31 - 1, -(1 << 31)
	lastMost, lastLeast = 1<<21 - 1, -(1 << 21)
	waveMost, waveLeast = 1 << 20, -(1 << 20)
	loud, hushed        = 1<<15 - 1, -(1 << 15) // the ends of sound
)

// A place is one number of a state: where its bytes stand, how many it has, what it may be, and how it is set and asked.
type place struct {
	name      string
	at, bytes int
	low, high int
	of        func(s *state.State) *int
}

// places answers all numbers of a state, in the order of their bytes.
func places() []place {
	var list []place
	for i := range api.Frame {
		list = append(list, place{"Mem", 4 * i, 4, memLeast, memMost, func(s *state.State) *int { return &s.Mem[i] }})
	}
	list = append(list, place{"Last", 64, 4, lastLeast, lastMost, func(s *state.State) *int { return &s.Last }})
	for i := range api.Bands {
		list = append(list, place{"Levels", 68 + i, 1, 0, 20, func(s *state.State) *int { return &s.Levels[i] }})
	}
	for i := range api.Frame {
		list = append(list, place{"Waves", 72 + 4*i, 4, waveLeast, waveMost, func(s *state.State) *int { return &s.Waves[i] }})
	}
	return append(list, place{"Lost", 136, 1, 0, 255, func(s *state.State) *int { return &s.Lost }})
}

// with answers s with x in a place.
func (p place) with(s state.State, x int) state.State {
	*p.of(&s) = x
	return s
}

// handed tells whether Next is handed such a number for the state behind.
func (p place) handed() bool {
	return p.name == "Levels" || p.name == "Waves" || p.name == "Lost"
}

// good answers numbers that the place may have: the ends, those next to them, and some between.
func (p place) good() []int {
	list := []int{p.low, p.low + 1, p.high, p.high - 1}
	for _, x := range []int{0, 1, -1, 7, 20, 128, 255, -128, 256, -256, 65535, 65536, -32769, 70000, 1 << 19, 1<<20 + 1, -(1 << 20) - 1, 1 << 24, 0x12345678, -0x12345678} {
		if p.low <= x && x <= p.high {
			list = append(list, x)
		}
	}
	return list
}

// bad answers numbers that the place may not have: those next to the ends, those that a narrower number would take for one it may have, those at the ends of the other places, and the ends of the ints.
func (p place) bad() []int {
	list := []int{p.low - 1, p.high + 1, p.low - 2, p.high + 2}
	for _, x := range []int{
		-1, 21, 255, 256, 256 + 5, 5 - 256, 1<<16 + 5, 5 - 1<<16, waveMost + 1, waveLeast - 1, lastMost + 1, lastLeast - 1,
		memMost, memLeast, 1 << 31, 1 << 32, 1<<32 + 5, 5 - 1<<32, -(1 << 32), 1 << 48, 1<<62 + 3, -(1 << 62),
		math.MaxInt, math.MaxInt - 1, math.MinInt, math.MinInt + 1,
	} {
		if x < p.low || x > p.high {
			list = append(list, x)
		}
	}
	return list
}

// block answers a frame whose i-th number rule tells.
func block(rule func(i int) int) api.Block {
	var b api.Block
	for i := range b {
		b[i] = rule(i)
	}
	return b
}

// all answers a frame of one number.
func all(x int) api.Block {
	return block(func(int) int { return x })
}

// mixed answers a row of numbers without an order to be seen, the same one each time.
func mixed() func() uint64 {
	x := uint64(88172645463325252)
	return func() uint64 {
		x ^= x << 13
		x ^= x >> 7
		x ^= x << 17
		return x
	}
}

// states answers right states, the same ones each time: those at the ends and mixed ones.
func states() []state.State {
	var zero, low, high state.State
	for _, p := range places() {
		low, high = p.with(low, p.low), p.with(high, p.high)
	}
	list := []state.State{zero, low, high, ordinary()}
	next := mixed()
	for i := range 200 {
		var s state.State
		for _, p := range places() {
			span := uint64(p.high-p.low)>>(i%20) + 1
			x := int(next()>>8%span) - int(span/2)
			s = p.with(s, max(p.low, min(x, p.high)))
		}
		list = append(list, s)
	}
	return list
}

// ordinary is a state each number of which is another one.
func ordinary() state.State {
	return state.State{
		Mem:    block(func(i int) int { return 1000*i*i - 70001 }),
		Last:   -54321,
		Levels: [4]int{3, 20, 0, 11},
		Waves:  block(func(i int) int { return 40000 - 5003*i }),
		Lost:   129,
	}
}

// toldBytes answers a right state's bytes, as the chapter's head tells them.
func toldBytes(s state.State) string {
	var text []byte
	word := func(x int) { text = binary.LittleEndian.AppendUint32(text, uint32(int32(x))) }
	for _, x := range s.Mem {
		word(x)
	}
	word(s.Last)
	for _, x := range s.Levels {
		text = append(text, byte(x))
	}
	for _, x := range s.Waves {
		word(x)
	}
	return string(append(text, byte(s.Lost)))
}

// by answers x by 2^n, the nearest whole number, a half upward; the numbers here are small enough for floats to be exact.
func by(x, n int) int {
	return int(math.Floor(math.Ldexp(float64(x), -n) + 0.5))
}

// turned answers the cosine of an angle in 64th parts of two right ones, worked out apart from the program's tables.
func turned(u int) int {
	return int(math.Round(32768 * math.Cos(float64(u%128)*math.Pi/64)))
}

// cosines and window are worked out once, as the tests ask for them often.
var cosines, window = func() (c [128]int, w [32]int) {
	for u := range c {
		c[u] = turned(u)
	}
	for n := range w {
		w[n] = int(math.Round(32768 * math.Sin(float64(2*n+1)*math.Pi/64)))
	}
	return c, w
}()

// toldBack answers the 32 numbers of the way back.
func toldBack(w api.Block) [32]int {
	var x [32]int
	for n := range x {
		sum := 0
		for k := range w {
			sum += w[k] * cosines[(2*n+17)*(2*k+1)%128]
		}
		x[n] = by(by(sum, 15)*window[n], 16)
	}
	return x
}

// told answers x cut to the bits between two ends.
func told(x, low, high int) int {
	switch {
	case x < low:
		return low
	case x > high:
		return high
	}
	return x
}

// toldNext answers the sound, and the state behind a right one, word by word as the chapters tell them.
func toldNext(s state.State, levels [4]int, waves api.Block, lost int) (api.Block, state.State) {
	then := state.State{Levels: levels, Waves: waves, Lost: lost}
	x := toldBack(waves)
	var sound api.Block
	ahead := s.Last
	for i := range sound {
		over := told(s.Mem[i]+x[i], memLeast, memMost)
		// Go's quotient is rounded toward 0.
		ahead = told(told(over, lastLeast, lastMost)+27853*ahead/32768, lastLeast, lastMost)
		sound[i] = told(ahead, hushed, loud)
		then.Mem[i] = told(x[i+16], memLeast, memMost)
	}
	then.Last = ahead
	return sound, then
}

// asTold holds Next against the chapters' words, and what it makes against what 12.3 says of it.
func asTold(t *testing.T, s state.State, levels [4]int, waves api.Block, lost int) (api.Block, state.State) {
	t.Helper()
	sound, then := state.Next(s, levels, waves, lost)
	wantSound, wantThen := toldNext(s, levels, waves, lost)
	if sound != wantSound || then != wantThen {
		t.Fatalf("Next(%v, %v, %v, %d) = %v, %v, want %v, %v", s, levels, waves, lost, sound, then, wantSound, wantThen)
	}
	if !state.Right(then) {
		t.Fatalf("what Next makes of %v and %v isn't right: %v", s, waves, then)
	}
	for _, x := range sound {
		if x < hushed || x > loud {
			t.Fatalf("%v sounds behind %v like %v", waves, s, sound)
		}
	}
	return sound, then
}

// refused tells whether Next answers nothing.
func refused(s state.State, levels [4]int, waves api.Block, lost int) bool {
	sound, then := state.Next(s, levels, waves, lost)
	return sound == api.Block{} && then == state.State{}
}

// 12.1: of each number the ends, and what is next to them, behind them and far from them.
func TestRight(t *testing.T) {
	for _, s := range states() {
		if !state.Right(s) {
			t.Errorf("%v isn't right", s)
		}
	}
	for _, p := range places() {
		for _, s := range []state.State{{}, ordinary()} {
			for _, x := range p.good() {
				if !state.Right(p.with(s, x)) {
					t.Errorf("%d in %s (byte %d) isn't right", x, p.name, p.at)
				}
			}
			for _, x := range p.bad() {
				if state.Right(p.with(s, x)) {
					t.Errorf("%d in %s (byte %d) is right", x, p.name, p.at)
				}
			}
		}
	}
}

// 12.1: two bad numbers don't make up for each other.
func TestTwoWrongOnesAreNotRight(t *testing.T) {
	list := places()
	for _, p := range list {
		for _, q := range list {
			if p.at == q.at {
				continue
			}
			s := q.with(p.with(state.State{}, p.high+1), q.low-1)
			if _, e := state.Bytes(s); state.Right(s) || e != api.ErrArg {
				t.Errorf("%v is right: Bytes says %d", s, e)
			}
		}
	}
}

// 12.1
func TestBytes(t *testing.T) {
	for _, c := range []struct {
		s    state.State
		want string
	}{
		{state.State{}, strings.Repeat("\x00", 137)}, // the chapter's example
		{state.State{Mem: api.Block{1}}, "\x01" + strings.Repeat("\x00", 136)},
		{state.State{Mem: api.Block{0, -2}}, "\x00\x00\x00\x00\xfe\xff\xff\xff" + strings.Repeat("\x00", 129)},
		{state.State{Mem: api.Block{15: 0x12345678}}, strings.Repeat("\x00", 60) + "\x78\x56\x34\x12" + strings.Repeat("\x00", 73)},
		{state.State{Mem: all(memMost)}, strings.Repeat("\xff\xff\xff\x7f", 16) + strings.Repeat("\x00", 73)},
		{state.State{Mem: all(memLeast)}, strings.Repeat("\x00\x00\x00\x80", 16) + strings.Repeat("\x00", 73)},
		{state.State{Last: 0x123456}, strings.Repeat("\x00", 64) + "\x56\x34\x12\x00" + strings.Repeat("\x00", 69)},
		{state.State{Last: lastMost}, strings.Repeat("\x00", 64) + "\xff\xff\x1f\x00" + strings.Repeat("\x00", 69)},
		{state.State{Last: lastLeast}, strings.Repeat("\x00", 64) + "\x00\x00\xe0\xff" + strings.Repeat("\x00", 69)},
		{state.State{Levels: [4]int{1, 2, 3, 20}}, strings.Repeat("\x00", 68) + "\x01\x02\x03\x14" + strings.Repeat("\x00", 65)},
		{state.State{Waves: api.Block{-258}}, strings.Repeat("\x00", 72) + "\xfe\xfe\xff\xff" + strings.Repeat("\x00", 61)},
		{state.State{Waves: api.Block{14: waveMost, 15: waveLeast}}, strings.Repeat("\x00", 128) + "\x00\x00\x10\x00\x00\x00\xf0\xff\x00"},
		{state.State{Lost: 255}, strings.Repeat("\x00", 136) + "\xff"},
	} {
		if got, e := state.Bytes(c.s); got != c.want || e != api.OK {
			t.Errorf("Bytes(%v) = %x, %d, want %x", c.s, got, e, c.want)
		}
	}
	if state.Size != 137 {
		t.Errorf("Size = %d", state.Size)
	}
	for _, s := range states() {
		if got, e := state.Bytes(s); got != toldBytes(s) || e != api.OK {
			t.Errorf("Bytes(%v) = %x, %d, want %x", s, got, e, toldBytes(s))
		}
	}
}

// 12.1: each number in each place, good ones and bad ones.
func TestBytesOfEachNumber(t *testing.T) {
	for _, p := range places() {
		for _, s := range []state.State{{}, ordinary()} {
			for _, x := range p.good() {
				one := p.with(s, x)
				if got, e := state.Bytes(one); got != toldBytes(one) || e != api.OK {
					t.Errorf("Bytes(%v) = %x, %d, want %x", one, got, e, toldBytes(one))
				}
			}
			for _, x := range p.bad() {
				if got, e := state.Bytes(p.with(s, x)); got != "" || e != api.ErrArg {
					t.Errorf("Bytes with %d in %s (byte %d) = %x, %d", x, p.name, p.at, got, e)
				}
			}
		}
	}
}

// 12.1: each byte of a word and each single byte is told apart from all others.
func TestReadEachByte(t *testing.T) {
	for _, p := range places() {
		for i := range p.bytes {
			for b := range 256 {
				text := []byte(strings.Repeat("\x00", 137))
				text[p.at+i] = byte(b)
				x := b << (8 * i)
				if p.bytes == 4 && x >= 1<<31 {
					x -= 1 << 32
				}
				want, wantErr := p.with(state.State{}, x), api.OK
				if x < p.low || x > p.high {
					want, wantErr = state.State{}, api.ErrForm
				}
				if got, e := state.Read(string(text)); got != want || e != wantErr {
					t.Fatalf("Read with the byte %d at %d = %v, %d, want %v, %d", b, p.at+i, got, e, want, wantErr)
				}
			}
		}
	}
}

// 12.1: other sizes than a state's, whatever the bytes are.
func TestReadOfOtherSizes(t *testing.T) {
	right := toldBytes(ordinary())
	for _, s := range []string{
		"", "\x00", right[:1], right[1:], right[:136], right + "\x00", "\x00" + right, right + right, right[:68], right[:72],
		strings.Repeat("\xff", 136), strings.Repeat("\xff", 138), strings.Repeat("\x00", 136), strings.Repeat("\x00", 138),
		strings.Repeat("\x00", 137+256), strings.Repeat("\x00", 1<<16+137), strings.Repeat("é", 68),
	} {
		if got, e := state.Read(s); got != (state.State{}) || e != api.ErrSize {
			t.Errorf("Read of %d bytes = %v, %d", len(s), got, e)
		}
	}
	for n := range 300 {
		want := api.ErrSize
		if n == 137 {
			want = api.OK
		}
		if _, e := state.Read(strings.Repeat("\x00", n)); e != want {
			t.Errorf("Read of %d bytes: %d, want %d", n, e, want)
		}
	}
}

// 12.1: bytes of each kind of number that make no right state.
func TestReadOfNoState(t *testing.T) {
	for _, s := range []state.State{{}, ordinary()} {
		text := toldBytes(s)
		for _, p := range places() {
			for _, x := range p.bad() {
				// Only what the bytes can say.
				if p.bytes == 1 && (x < 0 || x > 255) || x < memLeast || x > memMost {
					continue
				}
				bytes := binary.LittleEndian.AppendUint32(nil, uint32(int32(x)))[:p.bytes]
				if got, e := state.Read(text[:p.at] + string(bytes) + text[p.at+p.bytes:]); got != (state.State{}) || e != api.ErrForm {
					t.Errorf("Read with %d in %s (byte %d) = %v, %d", x, p.name, p.at, got, e)
				}
			}
		}
	}
	if got, e := state.Read(strings.Repeat("\xff", 137)); got != (state.State{}) || e != api.ErrForm {
		t.Errorf("Read of 137 bytes 255 = %v, %d", got, e)
	}
}

// 12.3: what Bytes makes is read as the same state.
func TestBytesAreRead(t *testing.T) {
	try := func(s state.State) {
		text, e := state.Bytes(s)
		if got, e2 := state.Read(text); got != s || e != api.OK || e2 != api.OK {
			t.Errorf("%v is read as %v (%d, %d)", s, got, e, e2)
		}
	}
	for _, s := range states() {
		try(s)
	}
	for _, p := range places() {
		for _, x := range p.good() {
			try(p.with(state.State{}, x))
			try(p.with(ordinary(), x))
		}
	}
}

// 12.3: bytes that are read are made again, those that the chapter's words make of a state and mixed ones.
func TestReadBytesAreMadeAgain(t *testing.T) {
	try := func(text string) {
		s, e := state.Read(text)
		if again, e2 := state.Bytes(s); again != text || e != api.OK || e2 != api.OK {
			t.Fatalf("%x is read as %v, %d, and made again as %x, %d", text, s, e, again, e2)
		}
	}
	for _, s := range states() {
		try(toldBytes(s))
	}
	next := mixed()
	low := func(n int) byte { return byte(next() >> 20 % uint64(n)) }
	// The high bytes of a word whose number has n bits below its sign's.
	high := func(n int) []byte {
		x := low(1 << n)
		return [][]byte{{x, 0}, {255 - x, 255}}[low(2)]
	}
	for range 2000 {
		text := make([]byte, 137)
		for i := range text {
			text[i] = low(256)
		}
		copy(text[66:], high(5))
		for i := 68; i < 72; i++ {
			text[i] = low(21)
		}
		for i := 72; i < 136; i += 4 {
			copy(text[i+2:], high(4))
		}
		try(string(text))
	}
}

// 12.2: a row of frames, each behind the state that the one ahead of it left; what is heard of it was worked out apart from the program.
func TestSoundsInARow(t *testing.T) {
	s := state.State{}
	for i, c := range []struct {
		waves, sound, mem api.Block
		last              int
	}{
		{
			api.Block{-4449, 8354, -3883, -2616, 2128, 1679, -1578, -1464, 1017, 1036, -891, -713, 1214, 1177, -655, -781},
			api.Block{-409, -1492, -2977, -4570, -5979, -6934, -7205, -6621, -5078, -2547, 925, 5215, 10135, 15439, 20843, 26041},
			api.Block{-1023, -770, -511, -129, 375, -492, 353, 112, 101, 262, -295, 177, -46, -128, -114, -50}, 26041,
		},
		{
			api.Block{3: 900},
			api.Block{21132, 17256, 14221, 11951, 10404, 8122, 7026, 5982, 5297, 5074, 4399, 4189, 3535, 2616, 1677, 968},
			api.Block{-192, 108, 351, 423, 301, 57, -186, -314, -284, -138, 34, 143, 151, 88, 16, -9}, 968,
		},
		{
			block(func(i int) int { return 20000 - 2500*i }),
			api.Block{338, 1294, 175, 2373, 240, 2787, -613, 2327, -1796, 2104, -2392, 2503, -2758, 2834, -3634, 2840},
			api.Block{-7485, 7084, -9828, 8868, -14922, 12143, -37192, -25272, -22906, -27583, 7278, -7057, 3173, -2462, 1051, -368}, 2840,
		},
		{
			api.Block{},
			api.Block{-5071, 2774, -7471, 2518, -12782, 1279, hushed, hushed, hushed, hushed, hushed, hushed, hushed, hushed, hushed, -32754},
			api.Block{}, -32754,
		},
		{
			api.Block{-7},
			api.Block{-27841, -23665, -20115, -17098, -14533, -12354, -10500, -8925, -7586, -6448, -5479, -4656, -3956, -3360, -2854, -2423},
			api.Block{2, 3, 3, 3, 3, 3, 3, 3, 2, 2, 2, 1, 1, 1}, -2423,
		},
		{
			api.Block{},
			api.Block{-2057, -1745, -1480, -1255, -1063, -900, -762, -644, -545, -461, -389, -329, -278, -235, -199, -169},
			api.Block{}, -169,
		},
	} {
		levels := [4]int{i, 20 - i, 0, 3 * i}
		sound, then := state.Next(s, levels, c.waves, 50*i)
		want := state.State{Mem: c.mem, Last: c.last, Levels: levels, Waves: c.waves, Lost: 50 * i}
		if sound != c.sound || then != want {
			t.Fatalf("the %d-th frame: %v, %v, want %v, %v", i, sound, then, c.sound, want)
		}
		s = then
	}
}

// 12.2: at the ends of what a state may have; what is heard was worked out apart from the program.
func TestSoundAtTheEnds(t *testing.T) {
	turns := block(func(i int) int { return []int{waveLeast, waveMost}[i%2] })
	for _, c := range []struct {
		s          state.State
		waves      api.Block
		sound, mem api.Block
		last       int
	}{
		{state.State{Mem: all(memMost), Last: lastMost}, api.Block{}, all(loud), api.Block{}, lastMost},
		{state.State{Mem: all(memLeast), Last: lastLeast}, api.Block{}, all(hushed), api.Block{}, lastLeast},
		// What is laid down is more than what is heard.
		{state.State{Last: lastMost}, api.Block{}, all(loud), api.Block{}, 155731},
		{
			state.State{}, all(waveMost),
			api.Block{17362, hushed, loud, hushed, loud, hushed, loud, hushed, loud, hushed, loud, hushed, loud, hushed, loud, hushed},
			api.Block{389887, -435312, 494654, -577304, 703421, -925371, 1435044, -3958461, -3587870, 1064288, -554643, 332690, -206555, 123905, -64572, 19155}, -199181,
		},
		{
			state.State{}, turns,
			api.Block{-19155, hushed, hushed, hushed, hushed, hushed, hushed, hushed, loud, loud, loud, loud, loud, loud, loud, loud},
			api.Block{353387, 322848, 296457, 273022, 251686, 231778, 212860, 194481, 176274, 157866, 138922, 119037, 97685, 74259, 47890, 17362}, lastMost,
		},
	} {
		sound, then := state.Next(c.s, [4]int{}, c.waves, 0)
		if want := (state.State{Mem: c.mem, Last: c.last, Waves: c.waves}); sound != c.sound || then != want {
			t.Errorf("%v behind %v: %v, %v, want %v, %v", c.waves, c.s, sound, then, c.sound, want)
		}
	}
}

// 12.2: all right states, and waves of all sizes, ahead of each other.
func TestNextIsAsTold(t *testing.T) {
	list := states()
	for i, s := range list {
		for _, to := range []state.State{list[0], list[1], list[2], list[3], list[(i+1)%len(list)], list[i*i%len(list)]} {
			asTold(t, s, to.Levels, to.Waves, to.Lost)
		}
	}
	s := list[0]
	for _, to := range list {
		_, s = asTold(t, s, to.Levels, to.Waves, to.Lost)
	}
}

// 12.2: each number at its ends, one at a time, of the state ahead and of what is handed beside it; levels, waves and lost stand in the state behind as they were given.
func TestNextOfEachNumber(t *testing.T) {
	for _, p := range places() {
		for _, s := range []state.State{{}, ordinary()} {
			for _, x := range p.good() {
				one := p.with(s, x)
				asTold(t, one, [4]int{4, 3, 2, 1}, ordinary().Waves, 9)
				_, then := asTold(t, s, one.Levels, one.Waves, one.Lost)
				if then.Levels != one.Levels || then.Waves != one.Waves || then.Lost != one.Lost {
					t.Errorf("%v, %v, %d stand behind as %v", one.Levels, one.Waves, one.Lost, then)
				}
			}
		}
	}
}

// 12.2: of a state that isn't right, or levels, waves or lost that make none, there is nothing.
func TestNextOfNoState(t *testing.T) {
	good := ordinary()
	if refused(good, good.Levels, good.Waves, good.Lost) {
		t.Fatalf("Next of %v is nothing", good)
	}
	for _, p := range places() {
		for _, x := range p.bad() {
			one := p.with(good, x)
			if !refused(one, good.Levels, good.Waves, good.Lost) {
				t.Errorf("Next of a state with %d in %s (byte %d) isn't nothing", x, p.name, p.at)
			}
			if !p.handed() {
				continue
			}
			for _, s := range []state.State{{}, good, one} {
				if !refused(s, one.Levels, one.Waves, one.Lost) {
					t.Errorf("Next with %d in %s (byte %d) isn't nothing", x, p.name, p.at)
				}
			}
		}
	}
}

// 12.2: what is heard, and what is remembered of it, doesn't hang on a state's levels, waves or lost, nor on the levels and lost behind it.
func TestWhatIsHeardHangsOnMemAndLast(t *testing.T) {
	list := states()
	for i, s := range list {
		w := list[len(list)-1-i]
		sound, then := state.Next(s, w.Levels, w.Waves, w.Lost)
		for _, o := range []state.State{list[0], list[1], list[2], list[i*7%len(list)]} {
			other := state.State{Mem: s.Mem, Last: s.Last, Levels: o.Levels, Waves: o.Waves, Lost: o.Lost}
			if got, n := state.Next(other, w.Levels, w.Waves, w.Lost); got != sound || n != then {
				t.Fatalf("%v sounds behind %v like %v, %v, behind %v like %v, %v", w, s, sound, then, other, got, n)
			}
			got, n := state.Next(s, o.Levels, w.Waves, o.Lost)
			if got != sound || n.Mem != then.Mem || n.Last != then.Last || n.Waves != then.Waves {
				t.Fatalf("%v sounds with %v and %d like %v, %v, else like %v, %v", w, o.Levels, o.Lost, got, n, sound, then)
			}
		}
	}
}

// 12.3: waves of which a number of the way back is as great as it may be, of both signs, behind a Mem and a Last that are so: the sound has 16 bits, and the state behind is right.
func TestGreatestWaves(t *testing.T) {
	for n := range 32 {
		for _, sign := range []int{1, -1} {
			waves := block(func(k int) int {
				if cosines[(2*n+17)*(2*k+1)%128] < 0 {
					return -sign * waveMost
				}
				return sign * waveMost
			})
			for _, mem := range []int{0, memMost, memLeast} {
				for _, last := range []int{0, lastMost, lastLeast} {
					s := state.State{Mem: all(mem), Last: last, Waves: all(waveLeast)}
					for range 3 {
						_, s = asTold(t, s, [4]int{20, 20, 20, 20}, waves, 255)
					}
				}
			}
		}
	}
}

// 12.3: of nothing behind nothing all is nothing, as often as it is.
func TestOfNothingAllIsNothing(t *testing.T) {
	s := state.State{}
	for range 5 {
		sound, then := state.Next(s, [4]int{}, api.Block{}, 0)
		if sound != (api.Block{}) || then != (state.State{}) {
			t.Fatalf("of nothing: %v, %v", sound, then)
		}
		s = then
	}
	if sound, then := state.Next(s, [4]int{1, 2, 3, 4}, api.Block{}, 5); sound != (api.Block{}) || then != (state.State{Levels: [4]int{1, 2, 3, 4}, Lost: 5}) {
		t.Errorf("of no waves: %v, %v", sound, then)
	}
}

// What is handed in isn't changed, and a call leaves nothing behind for the next one.
func TestNothingIsKept(t *testing.T) {
	s, w := ordinary(), states()[5]
	text, _ := state.Bytes(s)
	sound, then := state.Next(s, w.Levels, w.Waves, w.Lost)
	state.Next(w, s.Levels, s.Waves, s.Lost)
	state.Bytes(w)
	state.Read(strings.Repeat("\xff", 137))
	if s != ordinary() || w != states()[5] {
		t.Errorf("the states are changed: %v, %v", s, w)
	}
	if again, e := state.Bytes(s); again != text || e != api.OK {
		t.Errorf("bytes again: %x, at first %x", again, text)
	}
	if again, n := state.Next(s, w.Levels, w.Waves, w.Lost); again != sound || n != then {
		t.Errorf("next again: %v, %v, at first %v, %v", again, n, sound, then)
	}
}
