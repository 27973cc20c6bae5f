package lost_test

import (
	"math"
	"slices"
	"testing"

	"spool/api"
	"spool/lost"
	"spool/state"
)

const (
	memMost, memLeast   = 1<<31 - 1, -(1 << 31)
	lastMost, lastLeast = 1<<21 - 1, -(1 << 21)
	waveMost, waveLeast = 1 << 20, -(1 << 20)
	loud, hushed        = 1<<15 - 1, -(1 << 15) // the ends of sound
)

// A place is one number of a state: what it may be, and how it is set.
type place struct {
	name      string
	low, high int
	set       func(s *state.State, x int)
}

// places answers all numbers of a state.
func places() []place {
	var list []place
	for i := range api.Frame {
		list = append(list, place{"Mem", memLeast, memMost, func(s *state.State, x int) { s.Mem[i] = x }},
			place{"Waves", waveLeast, waveMost, func(s *state.State, x int) { s.Waves[i] = x }})
	}
	for b := range api.Bands {
		list = append(list, place{"Levels", 0, 20, func(s *state.State, x int) { s.Levels[b] = x }})
	}
	return append(list, place{"Last", lastLeast, lastMost, func(s *state.State, x int) { s.Last = x }},
		place{"Lost", 0, 255, func(s *state.State, x int) { s.Lost = x }})
}

// with answers s with x in a place.
func (p place) with(s state.State, x int) state.State {
	p.set(&s, x)
	return s
}

// bad answers numbers that the place may not have: those next to the ends, those of which the half is one it may have, those that a narrower number would take for such a one, and the ends of the ints.
func (p place) bad() []int {
	list := []int{p.low - 1, p.high + 1, p.low - 2, p.high + 2, 2 * p.high}
	for _, x := range []int{
		-1, 21, 256, 256 + 5, 5 - 256, 1<<16 + 5, waveMost + 1, waveLeast - 1, lastMost + 1, lastLeast - 1, memMost + 1, memLeast - 1,
		2 * waveMost, 2 * waveLeast, 1 << 32, 1<<32 + 5, 5 - 1<<32, -(1 << 32), 1 << 62, -(1 << 62),
		math.MaxInt, math.MaxInt - 1, math.MinInt, math.MinInt + 1,
	} {
		if x < p.low || x > p.high {
			list = append(list, x)
		}
	}
	return list
}

// block answers a frame whose i-th number rule tells.
func block(rule func(i int) int) api.Block {
	var b api.Block
	for i := range b {
		b[i] = rule(i)
	}
	return b
}

// all answers a frame of one number.
func all(x int) api.Block {
	return block(func(int) int { return x })
}

// ordinary is a state each number of which is another one, behind five lost frames.
func ordinary() state.State {
	return state.State{
		Mem:    block(func(i int) int { return 1000*i*i - 70001 }),
		Last:   -54321,
		Levels: [4]int{3, 20, 0, 11},
		Waves:  block(func(i int) int { return 40000 - 5003*i }),
		Lost:   5,
	}
}

// mixed answers a row of numbers without an order to be seen, the same one each time.
func mixed() func() uint64 {
	x := uint64(88172645463325252)
	return func() uint64 {
		x ^= x << 13
		x ^= x >> 7
		x ^= x << 17
		return x
	}
}

// loudest answers states as loud as may be, of one sign and of both, behind no lost frame and behind many.
func loudest() []state.State {
	turns := block(func(i int) int { return []int{waveLeast, waveMost}[i%2] })
	var list []state.State
	for _, lost := range []int{0, 1, 7, 8, 9, 254, 255} {
		for _, waves := range []api.Block{all(waveMost), all(waveLeast), turns} {
			for _, mem := range []int{memMost, memLeast} {
				for _, last := range []int{lastMost, lastLeast} {
					list = append(list, state.State{Mem: all(mem), Last: last, Levels: [4]int{20, 20, 20, 20}, Waves: waves, Lost: lost})
				}
			}
		}
	}
	return list
}

// states answers right states, the same ones each time: those at the ends, those with one number at an end, and mixed ones.
func states() []state.State {
	list := append([]state.State{{}, ordinary()}, loudest()...)
	var low, high state.State
	for _, p := range places() {
		low, high = p.with(low, p.low), p.with(high, p.high)
		for _, s := range []state.State{{}, ordinary()} {
			list = append(list, p.with(s, p.low), p.with(s, p.high))
		}
	}
	list = append(list, low, high)
	next := mixed()
	for i := range 200 {
		var s state.State
		for _, p := range places() {
			span := uint64(p.high-p.low)>>(i%20) + 1
			x := int(next()>>8%span) - int(span/2)
			s = p.with(s, max(p.low, min(x, p.high)))
		}
		// Mixed so, frames would seldom be behind fewer than eight lost ones.
		if i%2 == 0 {
			s.Lost %= 10
		}
		list = append(list, s)
	}
	return list
}

// toldHalf answers the half of x, what stands behind the point fallen away; the numbers here are small enough for floats to be exact.
func toldHalf(x int) int {
	return int(math.Trunc(float64(x) / 2))
}

// toldLose answers the sound of a lost frame, and the state then, as the chapter's head tells them.
func toldLose(s state.State) (api.Block, state.State) {
	levels, waves, lost := s.Levels, s.Waves, s.Lost
	for i := range waves {
		waves[i] = toldHalf(waves[i])
		if s.Lost >= 8 {
			waves[i] = 0
		}
	}
	for b := range levels {
		if levels[b] > 0 {
			levels[b]--
		}
	}
	if lost < 255 {
		lost++
	}
	return state.Next(s, levels, waves, lost)
}

// toldRun answers the sounds of so many lost frames, one by one, and the state then.
func toldRun(s state.State, many int) ([]api.Block, state.State) {
	var sounds []api.Block
	for len(sounds) < many {
		sound, then := toldLose(s)
		sounds, s = append(sounds, sound), then
	}
	return sounds, s
}

// runIs holds a run against sounds and a state.
func runIs(t *testing.T, s state.State, n int, sounds []api.Block, then state.State) {
	t.Helper()
	got, end := lost.Run(s, n)
	if !slices.Equal(got, sounds) || end != then {
		t.Fatalf("Run(%v, %d): %d sounds, %v, want %d, %v", s, n, len(got), end, len(sounds), then)
	}
}

// A lostFrame is what is made of a lost one.
type lostFrame struct {
	sound api.Block
	then  state.State
}

// workedOut are lost frames in a row behind three states; they were worked out apart from the program.
var workedOut = []struct {
	s   state.State
	row []lostFrame
}{
	{state.State{Mem: api.Block{50}, Levels: [4]int{10, 0, 3, 0}, Waves: api.Block{-7, 1000}}, []lostFrame{
		{
			api.Block{40, -1, -61, -133, -205, -261, -285, -267, -199, -83, 75, 257, 447, 622, 762, 849},
			state.State{Mem: api.Block{150, 85, 13, -56, -115, -158, -180, -182, -165, -134, -95, -54, -20, 3, 13, 7}, Last: 849, Levels: [4]int{9, 0, 2, 0}, Waves: api.Block{-3, 500}, Lost: 1},
		},
		{
			api.Block{866, 804, 666, 469, 237, 0, -212, -374, -468, -488, -437, -328, -184, -32, 103, 194},
			state.State{Mem: api.Block{75, 42, 6, -28, -58, -79, -90, -91, -83, -67, -47, -27, -10, 2, 6, 4}, Last: 194, Levels: [4]int{8, 0, 1, 0}, Waves: api.Block{-1, 250}, Lost: 2},
		},
		{
			api.Block{237, 234, 189, 112, 14, -90, -182, -251, -289, -291, -258, -198, -121, -39, 31, 80},
			state.State{Mem: api.Block{37, 21, 3, -14, -29, -40, -45, -46, -42, -34, -24, -14, -5, 1, 3, 2}, Last: 80, Levels: [4]int{7, 0, 0, 0}, Waves: api.Block{0, 125}, Lost: 3},
		},
	}},
	{ordinary(), []lostFrame{
		{
			api.Block{hushed, hushed, hushed, hushed, hushed, hushed, hushed, hushed, hushed, hushed, hushed, hushed, loud, loud, loud, loud},
			state.State{Mem: api.Block{-7494, 7093, -9840, 8880, -14939, 12160, -37230, -25241, -22878, -27611, 7289, -7065, 3177, -2465, 1052, -368}, Last: 358470, Levels: [4]int{2, 19, 0, 10}, Waves: api.Block{20000, 17498, 14997, 12495, 9994, 7492, 4991, 2489, -12, -2513, -5015, -7516, -10018, -12519, -15021, -17522}, Lost: 6},
		},
		{
			api.Block{loud, loud, loud, loud, loud, loud, loud, loud, 11015, -16363, -8729, -12285, -9786, -8235, -8980, -5028},
			state.State{Mem: api.Block{-3747, 3545, -4920, 4440, -7470, 6080, -18614, -12620, -11439, -13805, 3644, -3533, 1589, -1232, 526, -184}, Last: -5028, Levels: [4]int{1, 18, 0, 9}, Waves: api.Block{10000, 8749, 7498, 6247, 4997, 3746, 2495, 1244, -6, -1256, -2507, -3758, -5009, -6259, -7510, -8761}, Lost: 7},
		},
		{
			api.Block{-8093, -3109, -7881, -1807, -9525, -1384, -20489, -29244, hushed, hushed, hushed, -32352, -27171, -23053, -20585, -16194},
			state.State{Mem: api.Block{-1873, 1773, -2460, 2220, -3735, 3039, -9307, -6310, -5719, -6902, 1821, -1766, 794, -616, 263, -92}, Last: -16194, Levels: [4]int{0, 17, 0, 8}, Waves: api.Block{5000, 4374, 3749, 3123, 2498, 1873, 1247, 622, -3, -628, -1253, -1879, -2504, -3129, -3755, -4380}, Lost: 8},
		},
		{
			api.Block{-15637, -11518, -12250, -8192, -10698, -6054, -14452, -18594, -21524, -25197, -19596, -18422, -14864, -13250, -10999, -9441},
			state.State{Last: -9441, Levels: [4]int{0, 16, 0, 7}, Lost: 9},
		},
		{
			api.Block{-8024, -6820, -5797, -4927, -4187, -3558, -3024, -2570, -2184, -1856, -1577, -1340, -1139, -968, -822, -698},
			state.State{Last: -698, Levels: [4]int{0, 15, 0, 6}, Lost: 10},
		},
		{
			api.Block{-593, -504, -428, -363, -308, -261, -221, -187, -158, -134, -113, -96, -81, -68, -57, -48},
			state.State{Last: -48, Levels: [4]int{0, 14, 0, 5}, Lost: 11},
		},
	}},
	{state.State{Mem: all(memMost), Last: lastMost, Levels: [4]int{20, 20, 20, 20}, Waves: all(waveMost)}, []lostFrame{
		{
			all(loud),
			state.State{Mem: api.Block{194944, -217656, 247327, -288652, 351711, -462685, 717522, -1979230, -1793935, 532144, -277322, 166345, -103278, 61952, -32286, 9578}, Last: lastMost, Levels: [4]int{19, 19, 19, 19}, Waves: all(1 << 19), Lost: 1},
		},
		{
			api.Block{loud, loud, loud, loud, loud, loud, loud, hushed, hushed, hushed, hushed, hushed, hushed, hushed, hushed, hushed},
			state.State{Mem: api.Block{97472, -108828, 123664, -144326, 175855, -231343, 358761, -989615, -896967, 266072, -138661, 83172, -51639, 30976, -16143, 4789}, Last: -602950, Levels: [4]int{18, 18, 18, 18}, Waves: all(1 << 18), Lost: 2},
		},
		{
			api.Block{hushed, hushed, hushed, hushed, hushed, hushed, loud, hushed, hushed, hushed, hushed, hushed, hushed, hushed, hushed, hushed},
			state.State{Mem: api.Block{48736, -54414, 61832, -72163, 87928, -115671, 179381, -494808, -448484, 133036, -69330, 41586, -25819, 15488, -8072, 2394}, Last: -504195, Levels: [4]int{17, 17, 17, 17}, Waves: all(1 << 17), Lost: 3},
		},
	}},
}

// 14.1, 14.2: what was worked out apart, frame by frame, in one run, and as gaps.
func TestWorkedOut(t *testing.T) {
	for _, c := range workedOut {
		s := c.s
		var sounds []api.Block
		for i, want := range c.row {
			if sound, then := lost.Lose(s); sound != want.sound || then != want.then {
				t.Errorf("the %d-th Lose, of %v: %v, %v, want %v, %v", i, s, sound, then, want.sound, want.then)
			}
			if sound, then := lost.Gap(s); sound != want.sound || then != (state.State{}) {
				t.Errorf("Gap(%v) = %v, %v, want %v", s, sound, then, want.sound)
			}
			s = want.then
			sounds = append(sounds, want.sound)
			runIs(t, c.s, i+1, sounds, want.then)
		}
	}
}

// 14.1: each wave is halved, rounded toward 0, in each place.
func TestHalves(t *testing.T) {
	for _, c := range [][2]int{
		{0, 0}, {1, 0}, {-1, 0}, {2, 1}, {-2, -1}, {3, 1}, {-3, -1}, {4, 2}, {-4, -2}, {7, 3}, {-7, -3}, {1000, 500}, {-1001, -500},
		{65535, 32767}, {-65535, -32767}, {waveMost, 1 << 19}, {waveLeast, -(1 << 19)}, {waveMost - 1, 1<<19 - 1}, {waveLeast + 1, 1 - 1<<19},
	} {
		if _, then := lost.Lose(state.State{Waves: all(c[0])}); then.Waves != all(c[1]) {
			t.Errorf("waves of %d then: %v", c[0], then.Waves)
		}
		for i := range api.Frame {
			s, want := ordinary(), block(func(i int) int { return toldHalf(40000 - 5003*i) })
			s.Waves[i], want[i] = c[0], c[1]
			if _, then := lost.Lose(s); then.Waves != want {
				t.Errorf("waves %v then: %v, want %v", s.Waves, then.Waves, want)
			}
		}
	}
}

// 14.1: each level, in each band, is one less, 0 at least.
func TestLevels(t *testing.T) {
	for b := range api.Bands {
		for _, row := range [][4]int{{}, {20, 20, 20, 20}, {3, 20, 0, 11}, {1, 1, 1, 1}} {
			for x := 0; x <= 20; x++ {
				s := state.State{Levels: row}
				s.Levels[b] = x
				var want [4]int
				for i, level := range s.Levels {
					want[i] = []int{0, 0, 1, 2, 3, 4, 5, 6, 7, 8, 9, 10, 11, 12, 13, 14, 15, 16, 17, 18, 19}[level]
				}
				if _, then := lost.Lose(s); then.Levels != want {
					t.Errorf("levels %v then: %v, want %v", s.Levels, then.Levels, want)
				}
			}
		}
	}
}

// 14.1: how many were lost ahead: one more then, 255 at most; behind eight and more no waves are handed on.
func TestLost(t *testing.T) {
	for _, c := range []struct {
		lost, then int
		waves      api.Block
	}{
		{0, 1, api.Block{-3, 500, 15: 1 << 19}},
		{1, 2, api.Block{-3, 500, 15: 1 << 19}},
		{7, 8, api.Block{-3, 500, 15: 1 << 19}},
		{8, 9, api.Block{}},
		{9, 10, api.Block{}},
		{127, 128, api.Block{}},
		{253, 254, api.Block{}},
		{254, 255, api.Block{}},
		{255, 255, api.Block{}},
	} {
		s := state.State{Waves: api.Block{-7, 1000, 15: waveMost}, Levels: [4]int{10, 0, 3}, Lost: c.lost}
		if _, then := lost.Lose(s); then.Lost != c.then || then.Waves != c.waves || then.Levels != [4]int{9, 0, 2} {
			t.Errorf("behind %d lost frames: %v", c.lost, then)
		}
	}
	for n := range 256 {
		s := ordinary()
		s.Lost = n
		_, then := lost.Lose(s)
		if then.Lost != min(n+1, 255) || (then.Waves == api.Block{}) != (n >= 8) {
			t.Errorf("behind %d lost frames: %v", n, then)
		}
	}
}

// 14.1, 14.3: the sound and the state then are Next's; the sound has 16 bits, the state is right. A gap has the same sound.
func TestLoseAsTold(t *testing.T) {
	for _, s := range states() {
		for range 3 {
			wantSound, wantThen := toldLose(s)
			sound, then := lost.Lose(s)
			if sound != wantSound || then != wantThen {
				t.Fatalf("Lose(%v) = %v, %v, want %v, %v", s, sound, then, wantSound, wantThen)
			}
			if !state.Right(then) || slices.Min(sound[:]) < hushed || slices.Max(sound[:]) > loud {
				t.Fatalf("Lose(%v) = %v, %v", s, sound, then)
			}
			if sound, end := lost.Gap(s); sound != wantSound || end != (state.State{}) {
				t.Fatalf("Gap(%v) = %v, %v, want %v", s, sound, end, wantSound)
			}
			s = then
		}
	}
}

// 14.1: the numbers of a state at their ends are such as it may have, so that frames are lost behind it.
func TestEndsArePlayed(t *testing.T) {
	for _, p := range places() {
		for _, x := range []int{p.low, p.high} {
			if _, then := lost.Lose(p.with(ordinary(), x)); then.Lost == 0 {
				t.Errorf("Lose with %d in %s: %v", x, p.name, then)
			}
		}
		if p.name != "Mem" && p.name != "Last" {
			continue
		}
		for _, x := range []int{p.low, p.high} {
			if sound, _ := lost.Gap(p.with(state.State{}, x)); sound == (api.Block{}) {
				t.Errorf("Gap with %d in %s is no sound", x, p.name)
			}
		}
	}
}

// 14.1, 14.2: states that aren't right, by one number: no sound, the zero state, and of a run what comes behind that.
func TestNoState(t *testing.T) {
	for _, p := range places() {
		for _, good := range []state.State{{}, ordinary()} {
			for _, x := range p.bad() {
				s := p.with(good, x)
				if sound, then := lost.Lose(s); sound != (api.Block{}) || then != (state.State{}) {
					t.Errorf("Lose with %d in %s: %v, %v", x, p.name, sound, then)
				}
				if sound, then := lost.Gap(s); sound != (api.Block{}) || then != (state.State{}) {
					t.Errorf("Gap with %d in %s: %v, %v", x, p.name, sound, then)
				}
				for n := 1; n <= 4; n++ {
					runIs(t, s, n, make([]api.Block, n), state.State{Lost: n - 1})
				}
				for _, n := range []int{0, -1, math.MinInt} {
					runIs(t, s, n, nil, s)
				}
			}
		}
	}
	runIs(t, state.State{Lost: -1}, math.MaxInt, make([]api.Block, 1000), state.State{Lost: 255})
}

// 14.1: two numbers that may not be don't make up for each other.
func TestTwoWrongNumbers(t *testing.T) {
	list := places()
	for i, p := range list {
		s := list[(i+7)%len(list)].with(p.with(ordinary(), p.low-1), list[(i+7)%len(list)].high+1)
		if sound, then := lost.Lose(s); sound != (api.Block{}) || then != (state.State{}) {
			t.Errorf("Lose(%v) = %v, %v", s, sound, then)
		}
	}
}

// 14.2: no run below 0, none longer than 1000; each one is Lose again and again.
func TestRun(t *testing.T) {
	for _, s := range []state.State{{}, ordinary(), loudest()[0], {Lost: 254}, states()[len(states())-2]} {
		for _, c := range [][2]int{
			{math.MinInt, 0}, {math.MinInt + 1, 0}, {-(1 << 32) + 5, 0}, {-1000, 0}, {-2, 0}, {-1, 0}, {0, 0}, {1, 1}, {2, 2}, {8, 8}, {9, 9}, {10, 10}, {255, 255}, {256, 256},
			{998, 998}, {999, 999}, {1000, 1000}, {1001, 1000}, {1002, 1000}, {2000, 1000}, {1 << 16, 1000}, {1 << 32, 1000}, {1<<32 + 3, 1000}, {1 << 62, 1000}, {math.MaxInt - 1, 1000}, {math.MaxInt, 1000},
		} {
			sounds, then := toldRun(s, c[1])
			runIs(t, s, c[0], sounds, then)
		}
	}
}

// 14.2: Run's sounds and state are those of Lose, again and again, behind each state.
func TestRunIsLoseAgain(t *testing.T) {
	for _, s := range states() {
		var sounds []api.Block
		end := s
		for n := range 14 {
			runIs(t, s, n, sounds, end)
			sound, then := lost.Lose(end)
			sounds, end = append(sounds, sound), then
		}
	}
}

// 14.2: a run in two parts is the run in one, of states that aren't right, too.
func TestTwoParts(t *testing.T) {
	for _, s := range []state.State{{}, ordinary(), loudest()[0], loudest()[30], {Lost: -1}, {Last: lastMost + 1, Lost: 3}} {
		for _, c := range [][2]int{{0, 0}, {0, 1}, {1, 0}, {1, 1}, {-5, 3}, {3, -5}, {2, 7}, {8, 1}, {9, 1}, {10, 10}, {200, 60}, {1, 999}, {999, 1}, {500, 500}} {
			first, middle := lost.Run(s, c[0])
			second, then := lost.Run(middle, c[1])
			runIs(t, s, max(c[0], 0)+max(c[1], 0), slices.Concat(first, second), then)
		}
	}
}

// size answers x without its sign.
func size(x int) int {
	return max(x, -x)
}

// 14.3: behind ten lost frames and more the waves are 0, and what is heard, of 16 bits all along, is less each time, and nothing at last.
func TestDiesAway(t *testing.T) {
	for _, s := range states() {
		sounds, _ := lost.Run(s, 40)
		for n := 10; n <= 40; n++ {
			if _, then := lost.Run(s, n); then.Waves != (api.Block{}) || !state.Right(then) {
				t.Fatalf("behind %v and %d lost frames: %v", s, n, then)
			}
		}
		ahead := sounds[9][15]
		for i, sound := range sounds {
			for _, x := range sound {
				if x < hushed || x > loud {
					t.Fatalf("the %d-th sound behind %v: %v", i, s, sound)
				}
				if i < 10 {
					continue
				}
				// What is cut to 16 bits stays as loud, till what was laid down is no more than that.
				if size(x) > size(ahead) || x != 0 && size(x) == size(ahead) && x != loud && x != hushed || x != 0 && (x < 0) != (ahead < 0) {
					t.Fatalf("the %d-th sound behind %v: %v, behind %d", i, s, sound, ahead)
				}
				ahead = x
			}
			// A sample of 22 bits has died away in six frames, each one of its samples being the part of that ahead.
			if i >= 16 && sound != (api.Block{}) {
				t.Fatalf("the %d-th sound behind %v: %v", i, s, sound)
			}
		}
	}
}

// 14.3: behind a long run all is 0, but for how many were lost.
func TestOfALongRun(t *testing.T) {
	for _, s := range loudest() {
		for _, n := range []int{255, 256, 1000, math.MaxInt} {
			sounds, then := lost.Run(s, n)
			if want := (state.State{Lost: 255}); then != want || sounds[len(sounds)-1] != (api.Block{}) {
				t.Errorf("behind %v and %d lost frames: %v", s, n, then)
			}
		}
	}
}

// What is handed in isn't changed, what is handed out is new memory, spare room included, and a call leaves nothing behind for the next one.
func TestNothingIsKept(t *testing.T) {
	s := ordinary()
	want, end := toldRun(s, 20)
	first, _ := lost.Run(s, 20)
	second, _ := lost.Run(s, 20)
	for _, l := range [][]api.Block{first, second} {
		l = l[:cap(l)]
		for i := range l {
			l[i] = all(99)
		}
		runIs(t, s, 20, want, end)
	}
	first, _ = lost.Run(s, 20)
	second, _ = lost.Run(s, 20)
	clear(first[:cap(first)])
	if !slices.Equal(second, want) {
		t.Errorf("a run's sounds are those of the run ahead of it: %v", second)
	}
	sound, then := lost.Lose(s)
	for _, other := range states() {
		lost.Lose(other)
		lost.Gap(other)
	}
	if again, n := lost.Lose(s); again != sound || n != then || s != ordinary() {
		t.Errorf("Lose(%v) again = %v, %v, at first %v, %v", s, again, n, sound, then)
	}
}

// The chapter's example, 14.1; a gap and a run behind the zero state.
func TestExample(t *testing.T) {
	if sound, then := lost.Lose(state.State{}); sound != (api.Block{}) || then != (state.State{Lost: 1}) {
		t.Errorf("Lose of the zero state = %v, %v", sound, then)
	}
	if sound, then := lost.Gap(state.State{}); sound != (api.Block{}) || then != (state.State{}) {
		t.Errorf("Gap of the zero state = %v, %v", sound, then)
	}
	runIs(t, state.State{}, 3, make([]api.Block, 3), state.State{Lost: 3})
}
