package enc_test

import (
	"testing"

	"spool/api"
	"spool/dec"
	"spool/enc"
	"spool/state"
)

// A worked frame is one whose packet was worked out apart from the program.
type worked struct {
	frame  api.Block
	size   int
	packet string
	then   enc.Enc
}

// row answers frames one behind the other, from the zero encoder on: waves, numbers, the bits they take, pulses and vectors' numbers are remarked.
func row() []worked {
	return []worked{
		// Waves 0 0 0 0 0 0 0 0 0 0 0 0 0 0 0 0; 0 0 0 0; 5 bits; pulses 0 0 0 0; vectors none.
		{api.Block{}, 10, "\x00\x00\x00\x00\x00\x00\x00\x00\x00\x00", enc.Enc{}},
		// Waves 1 0 0 1 0 -1 -2 0 3 3 2 0 -1 -1 -1 0; 1 1 2 4; 14 bits; pulses 8 8 8 8; vectors 31, 16, 616, 149442.
		{api.Block{-2, -3, 1, 2, -3, -2, -2, -3, -3, 3, 2, -2, 3, 2, -1, -2}, 16, "\x75\xb2\xb0\xab\xe8\xe5\x7d\x90\xd4\x80\x00\x00\x00\x00\x00\x00", enc.Enc{Prev: api.Block{-2, -2, 3, 2, -4, 0, -1, -2, -1, 5, 0, -3, 4, 0, -2, -2}, Last: -2, State: state.State{Mem: api.Block{-2, -1, 2, 2, -5, 0, 1, -1, -1, 1, 0, -2, 1, 1}, Levels: [4]int{1, 1, 2, 4}, Waves: api.Block{1, 0, 0, 1, 0, -1, -1, 0, 3, 3, 1, 0, -1, -1, -1}}}},
		// Waves 276 -1782 -1820 767 1760 -401 -1787 60 1776 282 -1715 -610 1596 913 -1416 -1188; 11 11 10 10; 47 bits; pulses 8 8 8 8; vectors 17, 4, 1202, 141977.
		{api.Block{-7200, -6300, -5400, -4500, -3600, -2700, -1800, -900, 0, 900, 1800, 2700, 3600, 4500, 5400, 6300}, 32, "\xfe\x4f\x65\x5f\x05\xec\xc7\x76\xdb\x6b\x38\x28\x18\x00\x00\x00\x00\x00\x00\x00\x00\x00\x00\x00\x00\x00\x00\x00\x00\x00\x00\x00", enc.Enc{Prev: api.Block{-7199, -180, -45, 90, 225, 360, 495, 630, 765, 900, 1035, 1170, 1305, 1440, 1575, 1710}, Last: 6300, State: state.State{Mem: api.Block{-8194, -35, 891, -474, 226, 1382, 1388, 1149, 1042, 1029, 828, 107, -170, 223, -5, -403}, Last: -1064, Levels: [4]int{12, 12, 12, 14}, Waves: api.Block{384, -2688, -2304, 768, 1152, -384, -1536, 0, 3072, 0, -1536, -1536, 1536, 1536, -1536, -1536}}}},
		// Waves -318 2790 82 -800 -174 484 219 -320 -231 200 217 -98 -184 9 134 69; 0 -2 -1 -3; 12 bits; pulses 8 8 8 8; vectors 14, 17, 545, 18319.
		{api.Block{7200, 6300, 5400, 4500, 3600, 2700, 1800, 900, 0, -900, -1800, -2700, -3600, -4500, -5400, -6300}, 20, "\x50\x27\x5e\x90\xb6\x98\x76\x38\x80\x00\x00\x00\x00\x00\x00\x00\x00\x00\x00\x00", enc.Enc{Prev: api.Block{1845, 180, 45, -90, -225, -360, -495, -630, -765, -900, -1035, -1170, -1305, -1440, -1575, -1710}, Last: -6300, State: state.State{Mem: api.Block{1981, -141, -369, -382, -460, -612, -728, -746, -677, -540, -367, -217, -137, -92, -21, 97}, Last: 6329, Levels: [4]int{12, 10, 11, 11}, Waves: api.Block{-384, 2688, 96, -672, -192, 576, 384, -384, -384, 192, 384, -192, -192, 0, 192}}}},
		// Waves -263 -386 4377 3000 -2285 -3885 1780 8147 6241 -2789 -8678 -6124 -1325 -1486 -4103 -2492; -2 3 3 5; 19 bits; pulses 2 4 4 5; vectors 1, 12, 34, 7574.
		{api.Block{-12324, 2156, 10561, 3313, -1612, 5708, -2744, 2566, -5018, -6476, 3276, 537, -5360, 30, 13513, 7555}, 11, "\xd4\xed\x28\x1a\x45\x69\x44\xa1\x00\x00\x00", enc.Enc{Prev: api.Block{-6969, 12631, 8729, -5663, -4428, 7078, -7595, 4898, -7199, -2211, 8780, -2247, -5816, 4586, 13488, -3931}, Last: 7555, State: state.State{Mem: api.Block{-18416, 16732, 12831, -10623, -4956, 12305, -9780, 1816, 1646, -7253, 7375, -2344, -3801, 3214, 2482, -905}, Last: 1598, Levels: [4]int{10, 13, 14, 16}, Waves: api.Block{-384, -384, 3072, 3072, -3072, -3072, 0, 6144, 9830, 0, -19660, -9830, 0, 0, -9830}}}},
		// Waves 6911 5907 -739 3214 17072 18212 -7061 -29159 -24240 -15752 3826 -377 6108 29160 57526 26991; 4 -1 3 2; 16 bits; pulses 4 0 4 4; vectors 12, 157, 1426.
		{api.Block{32767, -32768, -32768, -32768, 32767, -32768, -32768, -32768, -32768, -32768, -32768, 32767, -32768, 32767, 32767, 32767}, 10, "\xee\x2b\x49\x77\x20\x75\x26\xe0\x00\x00", enc.Enc{Prev: api.Block{26346, -60620, -4915, -4915, 60620, -60620, -4915, -4915, -4915, -4915, -4915, 60620, -60620, 60620, 4915, 4915}, Last: 32767, State: state.State{Mem: api.Block{35483, -103961, 48896, -48830, 93045, -60064, 14689, -17735, -16074, 10894, -36001, 44007, -17471, 12248, -15421, 1743}, Last: 21566, Levels: [4]int{14, 12, 17, 18}, Waves: api.Block{6144, 6144, 0, 0, 24576, 24576, 0, -49152, 0, 0, 0, 0, 0, 49152, 98304, 49152}}}},
		// Waves -3318 11959 -13910 471 7101 8430 -19426 -1437 28875 -27682 7018 10043 -22789 26164 -3762 -28064; 0 2 -1 0; 9 bits; pulses 8 8 8 8; vectors 12, 0, 1136, 140063.
		{api.Block{}, 32, "\x47\xcd\x7d\xfc\xae\xc5\xb6\xf9\x00\x00\x00\x00\x00\x00\x00\x00\x00\x00\x00\x00\x00\x00\x00\x00\x00\x00\x00\x00\x00\x00\x00\x00", enc.Enc{Prev: api.Block{-27852}, State: state.State{Mem: api.Block{-48094, 5864, 1726, 5764, -7059, 4979, 8652, -7481, -6781, 6417, 2984, -3339, 2062, 432, 870, -2363}, Last: 38508, Levels: [4]int{14, 14, 16, 18}, Waves: api.Block{-3072, 9216, -12288, 0, 12288, 12288, -24576, 0, 49152, -24576, 0, 24576, -24576, 24576, 0, -49152}}}},
		// Waves -230 275 176 -309 -115 332 50 -341 17 338 -83 -322 146 293 -203 -253; -5 -5 -6 -7; 29 bits; pulses 8 8 7 6; vectors 8, 21, 357, 17137.
		{api.Block{1}, 13, "\xf9\x7b\x34\xb6\x6c\xf7\xab\xda\xa0\x10\x00\x00\x00", enc.Enc{Prev: api.Block{1}, State: state.State{Mem: api.Block{-91, 59, -129, 114, 36, -56, 47, 3, 2, 35, -34, 17, 41, -32, 9, -4}, Last: 965, Levels: [4]int{9, 9, 10, 11}, Waves: api.Block{-192, 192, 144, -240, -109, 329, 0, -329, 0, 256, 0, -256, 256, 256, -256, -256}}}},
		// Waves 0 0 0 0 0 0 0 0 0 0 0 0 0 0 0 0; -9 -9 -10 -11; 45 bits; pulses 0 0 0 0; vectors none.
		{api.Block{}, 10, "\xfe\x1b\x38\xa3\xa6\x34\xb9\xb0\x00\x00", enc.Enc{State: state.State{Last: 88}}},
		// Waves 0 0 0 0 0 0 0 0 0 0 0 0 0 0 0 0; 0 0 0 0; 5 bits; pulses 0 0 0 0; vectors none.
		{api.Block{}, 12, "\x00\x00\x00\x00\x00\x00\x00\x00\x00\x00\x00\x00", enc.Enc{State: state.State{Last: 4}}},
	}
}

// single answers frames each behind an encoder of its own, with remarks as in a row.
func single() []struct {
	e enc.Enc
	worked
} {
	return []struct {
		e enc.Enc
		worked
	}{
		// Waves -16967 28395 -7860 -8839 2980 5286 -1282 -3470 508 2181 -211 -1022 306 -831 -3526 -2249; 13 -5 14 3; 35 bits; pulses 2 1 0 0; vectors 2, 1.
		{ordinary(), worked{api.Block{7, -993, 2007, -2993, 4007, -4993, 6007, -6993, 8007, -8993, 10007, -10993, 12007, -12993, 14007, -14993}, 10, "\xfe\x8f\x18\xcf\x67\x4e\xce\x70\x00\x00", enc.Enc{Prev: api.Block{10500, -998, 2851, -4698, 6551, -8398, 10251, -12098, 13951, -15798, 17651, -19499, 21351, -23199, 25051, -26899}, Last: -14993, State: state.State{Mem: api.Block{21653, 10905, 1235, -3908, -3482, 868, 5915, 8660, 7850, 4387, 520, -1647, -1398, 309, 1618, 1064}, Last: 438180, Levels: [4]int{16, 15, 14, 14}, Waves: api.Block{-24576, 24576, 0, -24576}}}}},
		// Waves -16967 28395 -7860 -8839 2980 5286 -1282 -3470 508 2181 -211 -1022 306 -831 -3526 -2249; 13 -5 14 3; 35 bits; pulses 8 8 8 8; vectors 10, 7, 1155, 93329.
		{ordinary(), worked{api.Block{7, -993, 2007, -2993, 4007, -4993, 6007, -6993, 8007, -8993, 10007, -10993, 12007, -12993, 14007, -14993}, 32, "\xfe\x8f\x18\xcf\x68\x39\xc3\x3b\xd7\x1a\x58\x38\x00\x00\x00\x00\x00\x00\x00\x00\x00\x00\x00\x00\x00\x00\x00\x00\x00\x00\x00\x00", enc.Enc{Prev: api.Block{10500, -998, 2851, -4698, 6551, -8398, 10251, -12098, 13951, -15798, 17651, -19499, 21351, -23199, 25051, -26899}, Last: -14993, State: state.State{Mem: api.Block{8895, 2010, -5988, 880, -4388, 2521, -193, 3421, 3101, -143, 1511, -2075, 315, -1500, 298, 437}, Last: 446222, Levels: [4]int{16, 15, 14, 14}, Waves: api.Block{-18432, 30720, -12288, -12288, 3072, 4608, -1536, -3072, 0, 1536, 0, -1536, 0, -1536, -4608, -3072}}}}},
		// Waves 0 0 0 0 0 0 0 0 0 0 0 0 0 0 0 0; -20 -20 -20 -20; 48 bits; pulses 0 0 0 0; vectors none.
		{enc.Enc{State: state.State{Levels: [4]int{20, 20, 20, 20}}}, worked{api.Block{}, 10, "\xff\x7f\x77\xc7\xbf\xfb\x00\x48\x00\x00", enc.Enc{}}},
		// Waves 0 0 0 -1 0 1 0 -1 -1 1 1 0 -1 0 1 1; -20 -19 -18 -17; 48 bits; pulses 0 0 0 0; vectors none.
		{enc.Enc{State: state.State{Levels: [4]int{20, 20, 20, 20}}}, worked{api.Block{3, -1}, 10, "\xff\x7f\x75\xc7\x8f\xf7\x00\x78\x00\x00", enc.Enc{Prev: api.Block{3, -3}, State: state.State{Levels: [4]int{0, 1, 2, 3}}}}},
		// Waves -19 -11 -1 3 1 -1 -1 0 0 0 0 0 1 0 -1 0; -15 3 -18 2; 32 bits; pulses 8 8 8 8; vectors 5, 12, 1182, 79192.
		{enc.Enc{State: state.State{Levels: [4]int{20, 0, 20, 0}}}, worked{api.Block{0, 5, 10, 15, 20, 25, 30, 35, 40, 45, 50, 55, 60, 65, 70, 75}, 14, "\xfe\xdd\x91\xef\x39\xaa\x93\xdd\x25\x04\x9e\x80\x00\x00", enc.Enc{Prev: api.Block{0, 5, 6, 7, 8, 8, 9, 10, 11, 11, 12, 13, 14, 14, 15, 16}, Last: 75, State: state.State{Mem: api.Block{0, 5, 7, 10, 10, 9, 9, 8, 7, 7, 6, 5, 4, 2, 1}, Last: -2, Levels: [4]int{5, 3, 2, 2}, Waves: api.Block{-15, -9, -1, 4, 1, -1, 0, 0, 0, 0, 0, 0, 1, 0, -1}}}}},
		// Waves 18968 -3762 -31672 -18376 170689 -213861 172303 71623 -606 -22273 -15053 -16971 -17925 6926 34004 -103048; 15 16 20 18; 48 bits; pulses 0 0 0 0; vectors none.
		{enc.Enc{Prev: api.Block{131072, 131072, -131072, -131072, -131072, 131072, 131072, 131072, -131072, -131072, -131072, 131072, 131072, 131072, -131072, -131072}, Last: 32767}, worked{api.Block{-32768, 32767, 32767, -32768, -32768, 32767, 32767, -32768, -32768, -32768, 32767, 32767, -32768, -32768, 32767, -32768}, 10, "\xfe\xcf\x6f\x1f\xf7\xf6\x80\x70\x00\x00", enc.Enc{Prev: api.Block{-60620, 60620, 4915, -60620, -4915, 60620, 4915, -60620, -4915, -4915, 60620, 4915, -60620, -4915, 60620, -60620}, Last: -32768, State: state.State{Levels: [4]int{15, 16, 20, 18}}}}},
		// Waves 39703 -57915 6676 30141 -18667 30519 100 -19272 73462 -42571 -92612 172705 109329 -100880 192316 -135100; 17 16 17 20; 48 bits; pulses 8 8 8 8; vectors 21, 18, 367, 120759.
		{enc.Enc{Prev: api.Block{131072, -131072, 131072, 131072, -131072, 131072, -131072, 131072, -131072, 131072, -131072, 131072, -131072, -131072, 131072, -131072}, Last: 32767}, worked{api.Block{-32768, 32767, -32768, -32768, 32767, -32768, 32767, -32768, -32768, 32767, -32768, 32767, -32768, -32768, 32767, -32768}, 32, "\xff\x0f\x6e\xff\x97\xfe\x2c\xe6\x68\xe0\x4c\x0a\x30\x00\x00\x00\x00\x00\x00\x00\x00\x00\x00\x00\x00\x00\x00\x00\x00\x00\x00\x00", enc.Enc{Prev: api.Block{-60620, 60620, -60620, -4915, 60620, -60620, 60620, -60620, -4915, 60620, -60620, 60620, -60620, -4915, 60620, -60620}, Last: -32768, State: state.State{Mem: api.Block{-73711, 10676, 16152, -49161, 60523, -32810, 60332, -42603, -38615, 44744, -19665, 28625, -17590, 4046, 1584, -3621}, Last: -149125, Levels: [4]int{17, 16, 17, 20}, Waves: api.Block{36864, -61440, 6144, 43008, -24576, 49152, 0, -24576, 98304, 0, -98304, 98304, 98304, -98304, 196608, -98304}}}}},
	}
}

// holds holds a frame against what was worked out.
func (w worked) holds(t *testing.T, e enc.Enc) {
	t.Helper()
	packet, then, err := enc.Encode(e, w.frame, w.size)
	if packet != w.packet || then != w.then || err != api.OK {
		t.Errorf("Encode(%v, %v, %d) = %x, %v, %d, want %x, %v", e, w.frame, w.size, packet, then, err, w.packet, w.then)
	}
	if !enc.Right(then) {
		t.Errorf("the encoder behind %v isn't right: %v", w.frame, then)
	}
}

// 15.1, 15.3: what was worked out apart, in a row, beside a decoder of the packets.
func TestRow(t *testing.T) {
	var e enc.Enc
	var s state.State
	for _, w := range row() {
		w.holds(t, e)
		_, then, err := dec.Decode(s, w.packet)
		if then != w.then.State || err != api.OK {
			t.Errorf("a decoder's state behind %x: %v, %d, want %v", w.packet, then, err, w.then.State)
		}
		e, s = w.then, then
	}
}

// 15.1: what was worked out apart, behind encoders that remember more than a row may have.
func TestSingle(t *testing.T) {
	for _, w := range single() {
		w.holds(t, w.e)
	}
}
