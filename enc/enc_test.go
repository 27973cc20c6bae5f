package enc_test

import (
	"math"
	"slices"
	"testing"

	"spool/api"
	"spool/dec"
	"spool/enc"
	"spool/state"
)

const (
	fewest, greatest = 10, 32 // bytes of a packet

	liftedMost, liftedLeast = 1 << 17, -(1 << 17)
	loud, hushed            = 1<<15 - 1, -(1 << 15) // the ends of samples
	memMost, memLeast       = 1<<31 - 1, -(1 << 31)
	laidMost, laidLeast     = 1<<21 - 1, -(1 << 21)
	waveMost, waveLeast     = 1 << 20, -(1 << 20)
)

// mixed answers a row of numbers without an order to be seen, the same one each time.
func mixed() func() uint64 {
	x := uint64(88172645463325252)
	return func() uint64 {
		x ^= x << 13
		x ^= x >> 7
		x ^= x << 17
		return x
	}
}

// below answers a number from 0 to below n.
func below(next func() uint64, n int) int {
	return int(next() >> 20 % uint64(n))
}

// around answers a number from low to high, and mostly one near 0, if bits is few.
func around(next func() uint64, low, high, bits int) int {
	return max(low, min(below(next, 2<<bits+1)-1<<bits, high))
}

// block answers a frame whose i-th number rule tells.
func block(rule func(i int) int) api.Block {
	var b api.Block
	for i := range b {
		b[i] = rule(i)
	}
	return b
}

// all answers a frame of one number.
func all(x int) api.Block {
	return block(func(int) int { return x })
}

// with answers b with x in one place.
func with(b api.Block, at, x int) api.Block {
	b[at] = x
	return b
}

// A place is one number of an encoder: what it may be, and how it is set.
type place struct {
	name      string
	low, high int
	set       func(e *enc.Enc, x int)
}

// places answers all numbers of an encoder.
func places() []place {
	var list []place
	for i := range api.Frame {
		list = append(list,
			place{"Prev", liftedLeast, liftedMost, func(e *enc.Enc, x int) { e.Prev[i] = x }},
			place{"Mem", memLeast, memMost, func(e *enc.Enc, x int) { e.State.Mem[i] = x }},
			place{"Waves", waveLeast, waveMost, func(e *enc.Enc, x int) { e.State.Waves[i] = x }})
	}
	for b := range api.Bands {
		list = append(list, place{"Levels", 0, 20, func(e *enc.Enc, x int) { e.State.Levels[b] = x }})
	}
	return append(list,
		place{"Last", hushed, loud, func(e *enc.Enc, x int) { e.Last = x }},
		place{"the state's Last", laidLeast, laidMost, func(e *enc.Enc, x int) { e.State.Last = x }},
		place{"Lost", 0, 255, func(e *enc.Enc, x int) { e.State.Lost = x }})
}

// in answers e with x in the place.
func (p place) in(e enc.Enc, x int) enc.Enc {
	p.set(&e, x)
	return e
}

// bad answers numbers that a place from low to high may not have: those next to the ends, the ends of others, those that a narrower number would take for one it may have, and the ends of the ints.
func bad(low, high int) []int {
	var list []int
	for _, x := range []int{
		low - 1, high + 1, low - 2, high + 2, -1, 21, 256, 256 + 5, 5 - 256, loud + 1, hushed - 1, 1<<16 + 5, 5 - 1<<16,
		liftedMost + 1, liftedLeast - 1, waveMost + 1, waveLeast - 1, laidMost + 1, laidLeast - 1, memMost + 1, memLeast - 1,
		1 << 32, 1<<32 + 5, 5 - 1<<32, -(1 << 32), 1 << 62, -(1 << 62), math.MaxInt, math.MaxInt - 1, math.MinInt, math.MinInt + 1,
	} {
		if x < low || x > high {
			list = append(list, x)
		}
	}
	return list
}

// ordinary is an encoder each number of which is another one.
func ordinary() enc.Enc {
	return enc.Enc{
		Prev: block(func(i int) int { return 3001*i - 20000 }),
		Last: -12345,
		State: state.State{
			Mem:    block(func(i int) int { return 1000*i*i - 70001 }),
			Last:   -54321,
			Levels: [4]int{3, 20, 0, 11},
			Waves:  block(func(i int) int { return 40000 - 5003*i }),
			Lost:   129,
		},
	}
}

// ends answers the encoders all numbers of which are the least, and the greatest.
func ends() (low, high enc.Enc) {
	for _, p := range places() {
		low, high = p.in(low, p.low), p.in(high, p.high)
	}
	return low, high
}

// someEncoder answers a right encoder without an order to be seen, its frame of about so many bits.
func someEncoder(next func() uint64, bits int) enc.Enc {
	var e enc.Enc
	for _, p := range places() {
		far := bits
		if p.name != "Prev" {
			far = below(next, 31)
		}
		e = p.in(e, around(next, p.low, p.high, far))
	}
	for b := range e.State.Levels {
		e.State.Levels[b] = below(next, 21)
	}
	return e
}

// encoders answers right encoders, the same ones each time: those at the ends, and those with levels far from what most frames have.
func encoders() []enc.Enc {
	low, high := ends()
	list := []enc.Enc{{}, low, high, ordinary(), {State: state.State{Levels: [4]int{20, 20, 20, 20}}}, {State: state.State{Levels: [4]int{20, 0, 20, 0}}}, {State: state.State{Lost: 255}}}
	for _, s := range single() {
		list = append(list, s.e)
	}
	return list
}

// turns answers the loudest frame that goes from one end to the other every n samples.
func turns(n int) api.Block {
	return block(func(i int) int { return []int{hushed, loud}[i/n%2] })
}

// some answers a frame without an order to be seen, of samples of so many bits beside their signs.
func some(next func() uint64, bits int) api.Block {
	return block(func(int) int { return around(next, hushed, loud, bits) })
}

// frames answers frames, the same ones each time: flat ones, steep ones, single samples, the loudest ones and mixed ones.
func frames() []api.Block {
	list := []api.Block{
		{}, all(1), all(-1), all(loud), all(hushed), turns(1), turns(2), turns(3), turns(5), turns(8),
		block(func(i int) int { return 2000 * i }), block(func(i int) int { return hushed + 4369*i }),
		{1}, {15: -1}, {7: 2}, {3: loud}, {0: hushed}, {15: loud}, {15: hushed},
	}
	next := mixed()
	for bits := range 16 {
		list = append(list, some(next, bits), block(func(int) int { return (1<<bits - 1) * (1 - 2*below(next, 2)) }))
	}
	return list
}

// asTold holds a frame's packet against the chapters' words, and the encoder then against what it must remember; it answers both, and what was met.
func asTold(t *testing.T, e enc.Enc, b api.Block, size int) (string, enc.Enc, tale) {
	t.Helper()
	want, met := toldPacket(e.Prev, e.Last, e.State.Levels, b, size)
	packet, then, err := enc.Encode(e, b, size)
	if packet != want || len(packet) != size || err != api.OK {
		t.Fatalf("Encode(%v, %v, %d) = %x, %d, want %x; %v", e, b, size, packet, err, want, met)
	}
	_, s, err := dec.Decode(e.State, packet)
	if wantThen := (enc.Enc{Prev: met.lifted, Last: b[15], State: s}); then != wantThen || err != api.OK {
		t.Fatalf("the encoder behind %v and %v, %d bytes: %v, want %v", e, b, size, then, wantThen)
	}
	if then.State.Levels != met.levels || !enc.Right(then) {
		t.Fatalf("the encoder behind %v and %v, %d bytes: %v, of the levels %v", e, b, size, then, met.levels)
	}
	return packet, then, met
}

// refused tests that a frame is refused, so that nothing is handed out.
func refused(t *testing.T, e enc.Enc, b api.Block, size int, want api.Errno) {
	t.Helper()
	if packet, then, err := enc.Encode(e, b, size); packet != "" || then != (enc.Enc{}) || err != want {
		t.Errorf("Encode(%v, %v, %d) = %x, %v, %d, want %d", e, b, size, packet, then, err, want)
	}
}

// seen is what frames must have met, so that holding their packets against the chapters' words tells something.
type seen struct {
	pulses   map[[2]int]int // by a band and its pulses
	levels   map[[2]int]int // by a band and its level
	numbers  map[[2]int]int // by a band and whether what was put of its level is below 0, 0, or above
	beside   [4]int         // a band without pulses, and another one with eight
	still    [4]int         // a band of the level 0, and another one of ten and more
	roomless int            // no bits for pulses
	tight    int            // fewer pulses than by the packet's size alone
}

// add adds a frame's tale.
func (s *seen) add(size int, met tale) {
	for b, k := range met.pulses {
		s.pulses[[2]int{b, k}]++
		s.levels[[2]int{b, met.levels[b]}]++
		s.numbers[[2]int{b, max(-1, min(met.numbers[b], 1))}]++
		if k == 0 && slices.Max(met.pulses[:]) == 8 {
			s.beside[b]++
		}
		if met.levels[b] == 0 && slices.Max(met.levels[:]) >= 10 {
			s.still[b]++
		}
	}
	if met.room == 0 {
		s.roomless++
	}
	if met.pulses != toldPulses(met.levels, 8*size-40) {
		s.tight++
	}
}

// miss tells what the frames haven't met.
func (s *seen) miss(t *testing.T) {
	t.Helper()
	// A pulse that costs no bits more is always given, so that some counts are never met.
	for b, counts := range [4][]int{{0, 1, 2, 4, 8}, {0, 1, 2, 4, 8}, {0, 1, 2, 3, 4, 5, 7, 8}, {0, 1, 2, 3, 4, 5, 6, 7, 8}} {
		for _, k := range counts {
			if s.pulses[[2]int{b, k}] == 0 {
				t.Errorf("band %d was never met with %d pulses", b, k)
			}
		}
		// No right encoder makes the first two bands, of two waves each, as loud as 20.
		for level := range []int{20, 20, 21, 21}[b] {
			if s.levels[[2]int{b, level}] == 0 {
				t.Errorf("band %d was never met with the level %d", b, level)
			}
		}
		for sign := -1; sign <= 1; sign++ {
			if s.numbers[[2]int{b, sign}] == 0 {
				t.Errorf("band %d: no number of the sign %d was put", b, sign)
			}
		}
		if s.beside[b] == 0 || s.still[b] == 0 {
			t.Errorf("band %d was met %d times without pulses beside eight, %d times still beside a loud one", b, s.beside[b], s.still[b])
		}
	}
	if s.roomless == 0 || s.tight == 0 {
		t.Errorf("without room %d times, tight %d times", s.roomless, s.tight)
	}
}

// 15.1: frames of all kinds, behind all kinds of encoders, at all sizes, against the chapters' words.
func TestEncodeAsTold(t *testing.T) {
	met := seen{map[[2]int]int{}, map[[2]int]int{}, map[[2]int]int{}, [4]int{}, [4]int{}, 0, 0}
	hold := func(e enc.Enc, b api.Block, size int) {
		_, _, m := asTold(t, e, b, size)
		met.add(size, m)
	}
	for i, e := range encoders() {
		for j, b := range frames() {
			hold(e, b, fewest+(i+j)%23)
			hold(e, b, []int{fewest, 11, greatest}[(i+j)%3])
		}
	}
	next := mixed()
	for size := fewest; size <= greatest; size++ {
		for i := range 100 {
			hold(someEncoder(next, i%18), some(next, below(next, 16)), size)
		}
	}
	for size := fewest; size <= greatest; size++ {
		for b := range 4 {
			e, frame := without(t, b)
			hold(e, frame, size)
			e, frame = loudest(b, below(next, 256))
			hold(e, frame, size)
		}
		for _, s := range single() {
			hold(s.e, s.frame, size)
		}
	}
	met.miss(t)
}

// 15.1: waves as loud as a right encoder may have, band by band and with all signs: the levels are those of the waves, 20 among them. No wave is brought nearer to 0 ahead of the search, as none is beyond 2^20.
func TestLoudest(t *testing.T) {
	for b, want := range [4]int{19, 19, 20, 20} {
		most := 0
		for signs := range 1 << sizes[b] {
			e, frame := loudest(b, signs)
			_, then, met := asTold(t, e, frame, []int{fewest, 17, greatest}[signs%3])
			most = max(most, then.State.Levels[b])
			if slices.Max(met.waves[:]) > waveMost || slices.Min(met.waves[:]) < waveLeast {
				t.Errorf("the waves of %v behind %v: %v", frame, e, met.waves)
			}
		}
		if most != want {
			t.Errorf("the greatest level of band %d is %d, want %d", b, most, want)
		}
	}
}

// loudest answers an encoder and a frame of which the waves of a band, each with a sign of its own, are as great in sum as may be.
func loudest(b, signs int) (enc.Enc, api.Block) {
	from, to := within(b)
	// What the sum grows by, for each of the two frames' numbers that is one more.
	var pull [32]int
	for n := range pull {
		for k := from; k < to; k++ {
			pull[n] += window[n] * turned(n, k) * (1 - 2*(signs>>(k-from)%2))
		}
	}
	toward := func(pull, low, high int) int {
		if pull < 0 {
			return low
		}
		return high
	}
	e := enc.Enc{
		Prev: block(func(n int) int { return toward(pull[n], liftedLeast, liftedMost) }),
		Last: toward(-pull[16], hushed, loud),
	}
	return e, block(func(n int) int {
		more := pull[16+n]
		if n < 15 {
			more -= 27853 * pull[17+n] / 32768
		}
		return toward(more, hushed, loud)
	})
}

// within answers where the waves of a band begin, and where they end.
func within(b int) (from, to int) {
	for _, n := range sizes[:b] {
		from += n
	}
	return from, from + sizes[b]
}

// without answers an encoder and a frame whose waves are 0 in one band, and loud in others: the last frame lifted is made of the sounds that the other waves are of.
func without(t *testing.T, b int) (enc.Enc, api.Block) {
	t.Helper()
	from, to := within(b)
	for k := range api.Frame {
		if k >= from && k < to {
			continue
		}
		for far := 1 << 12; far > 0; far /= 2 {
			e := enc.Enc{Prev: block(func(n int) int { return by(far*window[n]*turned(n, k), 30) })}
			// A sample's lifted one has the part of that ahead less, so that samples are made one by one.
			var frame api.Block
			last := 0
			for n := range frame {
				last = by(far*window[n+16]*turned(n+16, k), 30) + 27853*last/32768
				frame[n] = max(hushed, min(last, loud))
			}
			levels := toldLevels(toldWaves(e.Prev, toldLift(0, frame)))
			if levels[b] == 0 && slices.Max(levels[:]) >= 10 {
				return e, frame
			}
		}
	}
	t.Fatalf("no frame found that has nothing in band %d", b)
	return enc.Enc{}, api.Block{}
}

// otherSizes answers sizes that no packet has, among them those that a narrower number would take for a packet's.
func otherSizes() []int {
	return []int{
		math.MinInt, math.MinInt + 1, math.MinInt + 16, -(1 << 32) + 16, -32, -10, -1, 0, 1, 8, 9, 33, 34, 64, 137, 255, 256, 256 + 10, 256 + 32,
		4096, 4097, 1<<16 + 16, 1 << 31, 1 << 32, 1<<32 + 16, 1 << 62, math.MaxInt - 1, math.MaxInt,
	}
}

// 15.1: another size is told ahead of an encoder that isn't right, and of samples that may not be; the sizes next to it are a packet's.
func TestOtherSizes(t *testing.T) {
	low, high := ends()
	for _, e := range []enc.Enc{{}, low, high, ordinary(), {Last: loud + 1}, {Prev: all(liftedMost + 1)}, {State: state.State{Lost: -1}}} {
		for _, b := range []api.Block{{}, all(loud), {loud + 1}, {15: math.MinInt}} {
			for _, size := range otherSizes() {
				refused(t, e, b, size, api.ErrSize)
			}
		}
	}
	for _, size := range []int{10, 11, 12, 31, 32} {
		for _, e := range []enc.Enc{{}, low, high, ordinary()} {
			asTold(t, e, some(mixed(), 15), size)
		}
	}
}

// 15.1: samples at their ends, and beyond them, one place at a time.
func TestSamples(t *testing.T) {
	for i := range api.Frame {
		for _, b := range []api.Block{{}, turns(3), block(func(i int) int { return 1000*i - 7000 })} {
			for _, x := range []int{hushed, hushed + 1, -1, 0, 1, loud - 1, loud} {
				asTold(t, enc.Enc{}, with(b, i, x), fewest+i)
				asTold(t, ordinary(), with(b, i, x), greatest-i)
			}
			for _, x := range bad(hushed, loud) {
				refused(t, enc.Enc{}, with(b, i, x), fewest+i, api.ErrArg)
				refused(t, ordinary(), with(b, i, x), greatest-i, api.ErrArg)
			}
		}
	}
}

// 15.1: two samples that may not be don't make up for each other.
func TestTwoWrongSamples(t *testing.T) {
	for i := range api.Frame {
		for j := range i {
			refused(t, enc.Enc{}, with(with(all(5), i, loud+1), j, hushed-1), 20, api.ErrArg)
			refused(t, enc.Enc{}, with(with(all(5), i, math.MinInt), j, math.MaxInt), 20, api.ErrArg)
		}
	}
}

// 15.1: each number of an encoder at its ends is right, and frames are encoded behind it.
func TestEncodersAtTheirEnds(t *testing.T) {
	next := mixed()
	for _, p := range places() {
		for _, e := range []enc.Enc{{}, ordinary()} {
			for _, x := range []int{p.low, p.low + 1, 0, p.high - 1, p.high} {
				if e := p.in(e, x); !enc.Right(e) {
					t.Errorf("with %d in %s: %v isn't right", x, p.name, e)
				}
				asTold(t, p.in(e, x), some(next, below(next, 16)), fewest+below(next, 23))
			}
		}
	}
	for i, e := range encoders() {
		if !enc.Right(e) {
			t.Errorf("the %d-th isn't right: %v", i, e)
		}
	}
}

// 15.1: encoders that aren't right, by one number: nothing is handed out, whatever the samples.
func TestNoEncoder(t *testing.T) {
	for _, p := range places() {
		for _, e := range []enc.Enc{{}, ordinary()} {
			for _, x := range bad(p.low, p.high) {
				e := p.in(e, x)
				if enc.Right(e) {
					t.Errorf("with %d in %s: %v is right", x, p.name, e)
				}
				for _, size := range []int{fewest, 20, greatest} {
					refused(t, e, turns(3), size, api.ErrArg)
					refused(t, e, all(loud+1), size, api.ErrArg)
				}
			}
		}
	}
}

// 15.1: two numbers that may not be don't make up for each other.
func TestTwoWrongNumbers(t *testing.T) {
	list := places()
	for i, p := range list {
		other := list[(i+7)%len(list)]
		e := other.in(p.in(ordinary(), p.low-1), other.high+1)
		if enc.Right(e) {
			t.Errorf("%v is right", e)
		}
		refused(t, e, api.Block{}, fewest, api.ErrArg)
	}
}

// 15.1: each packet has the size that was asked for, in rows of silence, of the loudest frames, of frames without an order to be seen, and of all by turns.
func TestSizesOfRows(t *testing.T) {
	next := mixed()
	rules := []func(i int) api.Block{
		func(int) api.Block { return api.Block{} },
		func(int) api.Block { return all(loud) },
		func(i int) api.Block { return turns(1 + i%16) },
		func(int) api.Block { return block(func(int) int { return []int{hushed, loud}[below(next, 2)] }) },
		func(int) api.Block { return some(next, 15) },
		func(i int) api.Block { return []api.Block{{}, turns(2), some(next, 3), some(next, 12)}[i%4] },
	}
	for size := fewest; size <= greatest; size++ {
		for _, rule := range rules {
			var e enc.Enc
			for i := range 12 {
				_, e, _ = asTold(t, e, rule(i), size)
			}
		}
	}
}

// 15.1: frames of 0s behind sound: the first one, lifted, still has something of the last sample, the second one's waves have it, too, and the third one's levels fall to 0.
func TestSilenceBehindSound(t *testing.T) {
	for size := fewest; size <= greatest; size++ {
		for _, b := range []api.Block{turns(2), all(loud), all(hushed), {15: 100}} {
			_, e, _ := asTold(t, enc.Enc{}, b, size)
			_, first, _ := asTold(t, e, api.Block{}, size)
			_, second, _ := asTold(t, first, api.Block{}, size)
			_, third, met := asTold(t, second, api.Block{}, size)
			if first.Prev == (api.Block{}) || first.Last != 0 || second.Prev != (api.Block{}) || second.State.Levels == [4]int{} {
				t.Errorf("0s behind %v: %v, then %v", b, first, second)
			}
			if third.Prev != (api.Block{}) || third.State.Levels != [4]int{} || met.numbers == [4]int{} || met.pulses != [4]int{} {
				t.Errorf("0s behind %v, the third time: %v; %v", b, third, met)
			}
		}
	}
}

// 15.1: what is answered hangs on the arguments alone, whatever was asked ahead of it.
func TestEachCallAlone(t *testing.T) {
	type answer struct {
		packet string
		then   enc.Enc
		err    api.Errno
	}
	ask := func(i int, e enc.Enc) (a answer) {
		a.packet, a.then, a.err = enc.Encode(e, frames()[i], fewest+i%23)
		return a
	}
	list := encoders()
	var first []answer
	for i, e := range list {
		first = append(first, ask(i, e))
	}
	for i := len(list) - 1; i >= 0; i-- {
		enc.Encode(enc.Enc{Last: loud + 1}, turns(1), greatest)
		enc.All(frames()[i:], greatest)
		if again := ask(i, list[i]); again != first[i] {
			t.Errorf("the %d-th: %v, and at first %v", i, again, first[i])
		}
	}
}

// The chapter's example, 15.1: ten bytes of 0s, and nothing to remember.
func TestExample(t *testing.T) {
	packet, then, err := enc.Encode(enc.Enc{}, api.Block{}, 10)
	if packet != "\x00\x00\x00\x00\x00\x00\x00\x00\x00\x00" || then != (enc.Enc{}) || err != api.OK {
		t.Errorf("Encode of 0s = %x, %v, %d", packet, then, err)
	}
}
