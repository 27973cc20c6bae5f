package enc_test

import (
	"math"
	"slices"
	"testing"

	"spool/api"
	"spool/dec"
	"spool/enc"
	"spool/state"
)

// toldAll answers the packets of frames, one behind the other, and the encoder then; none of them may be refused.
func toldAll(t *testing.T, e enc.Enc, frames []api.Block, size int) ([]string, enc.Enc) {
	t.Helper()
	var packets []string
	for _, b := range frames {
		packet, then, _ := asTold(t, e, b, size)
		packets, e = append(packets, packet), then
	}
	return packets, e
}

// allIs holds what All answers of frames.
func allIs(t *testing.T, frames []api.Block, size int, packets []string, then enc.Enc, want api.Errno) {
	t.Helper()
	got, e, err := enc.All(frames, size)
	if !slices.Equal(got, packets) || e != then || err != want {
		t.Errorf("All(%d frames, %d): %d packets %x, %v, %d, want %d %x, %v, %d", len(frames), size, len(got), got, e, err, len(packets), packets, then, want)
	}
}

// rows answers rows of frames, the same ones each time: silence, the loudest, a tone that grows, and frames without an order to be seen.
func rows() [][]api.Block {
	silence, loudRow := make([]api.Block, 8), make([]api.Block, 8)
	var tone, noise, mix []api.Block
	next := mixed()
	for i := range 16 {
		tone = append(tone, block(func(n int) int { return (i + 1) * 60 * (min((16*i+n)%32, 32-(16*i+n)%32) - 8) }))
		noise = append(noise, some(next, 15))
		mix = append(mix, some(next, i), turns(1+i))
	}
	for i := range loudRow {
		loudRow[i] = block(func(int) int { return []int{hushed, loud}[below(next, 2)] })
	}
	return [][]api.Block{silence, loudRow, tone, noise, mix, frames()}
}

// 15.2: no frames, at each size: no packet, the zero encoder, and nothing that is refused; also at sizes that no packet has, as none is encoded.
func TestAllOfNone(t *testing.T) {
	for size := fewest; size <= greatest; size++ {
		allIs(t, nil, size, nil, enc.Enc{}, api.OK)
		allIs(t, []api.Block{}, size, nil, enc.Enc{}, api.OK)
	}
	for _, size := range otherSizes() {
		allIs(t, nil, size, nil, enc.Enc{}, api.OK)
	}
}

// 15.2: one frame: that which Encode makes of it behind the zero encoder.
func TestAllOfOne(t *testing.T) {
	list := frames()
	for size := fewest; size <= greatest; size++ {
		for i := size % 3; i < len(list); i += 3 {
			packet, then, _ := asTold(t, enc.Enc{}, list[i], size)
			allIs(t, list[i:i+1], size, []string{packet}, then, api.OK)
		}
	}
}

// 15.2: many frames, at each size, also in two parts: the second one goes on with what the first one left.
func TestAllOfMany(t *testing.T) {
	for size := fewest; size <= greatest; size++ {
		for _, row := range rows() {
			packets, then := toldAll(t, enc.Enc{}, row, size)
			allIs(t, row, size, packets, then, api.OK)
			for _, n := range []int{0, 1, size % len(row), len(row)} {
				first, e, err := enc.All(row[:n], size)
				for _, b := range row[n:] {
					var packet string
					packet, e, _ = enc.Encode(e, b, size)
					first = append(first, packet)
				}
				if !slices.Equal(first, packets) || e != then || err != api.OK {
					t.Errorf("in parts of %d and %d frames, %d bytes: %x, %v, %d, want %x, %v", n, len(row)-n, size, first, e, err, packets, then)
				}
			}
		}
	}
}

// 15.2: what was worked out apart, of a tone that dies away: seven frames, of two sizes.
func TestAllWorkedOut(t *testing.T) {
	var row []api.Block
	for i := range 7 {
		row = append(row, block(func(n int) int { return (7 - i) * 100 * (min((16*i+n)%32, 32-(16*i+n)%32) - 8) }))
	}
	then := enc.Enc{
		Prev: api.Block{390, -20, -5, 10, 25, 40, 55, 70, 85, 100, 115, 130, 145, 160, 175, 190},
		Last: 700,
		State: state.State{
			Mem:    api.Block{445, 10, 143, 73, 64, 145, 49, 14, 13, 36, 87, 30, 26, 36, 2, 22},
			Last:   -1303,
			Levels: [4]int{9, 9, 9, 10},
			Waves:  api.Block{0, -384, 288, 96, -153, 0, 153, 76, -128, 0, 128, 0, -128, -128, 128, 128},
		},
	}
	allIs(t, row, 10, []string{
		"\xfe\x4f\x65\x5f\x47\xf4\x80\xc0\x00\x00",
		"\x7c\x18\x3e\x3f\xf2\x1c\xf2\x00\x00\x00",
		"\x8c\xcf\xea\x63\x4d\x69\x0c\x20\x00\x00",
		"\x3d\xb4\x70\xa1\xff\xc8\x43\x20\x00\x00",
		"\x03\x10\xaf\xe5\xb3\xa7\x01\x00\x00\x00",
		"\x8a\x3a\x7b\xf7\x3d\x59\xd1\x20\x00\x00",
		"\x8a\x57\xa2\x20\x00\x11\x2b\x48\x00\x00",
	}, then, api.OK)
	then.State = state.State{
		Mem:    api.Block{377, 130, 81, 94, 102, 78, 50, 36, 33, 37, 47, 48, 34, 20, 19, 19},
		Last:   -1316,
		Levels: [4]int{9, 9, 9, 10},
		Waves:  api.Block{0, -384, 288, 96, -144, -48, 144, 48, -96, -96, 96, 96, -96, -96, 96, 96},
	}
	allIs(t, row, 13, []string{
		"\xfe\x4f\x65\x5f\x47\xf4\xce\x2f\x94\x70\x00\x00\x00",
		"\x7c\x18\x3f\x5f\xf8\xbe\x12\x1f\x20\x00\x00\x00\x00",
		"\x8c\xcf\xea\x61\x62\x69\xf7\xde\x00\x00\x00\x00\x00",
		"\x3d\xb4\x4a\xae\x2d\x41\x4b\xc3\x00\x00\x00\x00\x00",
		"\x03\x0f\xee\x2c\xdb\x6c\x47\x00\x00\x00\x00\x00\x00",
		"\x8a\x3a\xd6\x2c\x96\xb6\x1f\xde\x40\x00\x00\x00\x00",
		"\x8a\x57\xe4\x45\x46\xb3\x6a\x1c\x00\x00\x00\x00\x00",
	}, then, api.OK)
}

// 15.2: a frame that may not be, in each place of a row, and other sizes: the first error, and nothing beside it.
func TestAllRefused(t *testing.T) {
	row := rows()[2]
	for i := range row {
		for _, x := range []int{hushed - 1, loud + 1, 1 << 32, math.MinInt, math.MaxInt} {
			l := slices.Clone(row)
			l[i] = with(l[i], i, x)
			allIs(t, l, fewest+i, nil, enc.Enc{}, api.ErrArg)
			for _, size := range []int{math.MinInt, 0, 9, 33, math.MaxInt} {
				allIs(t, l, size, nil, enc.Enc{}, api.ErrSize)
			}
		}
	}
	for _, size := range otherSizes() {
		allIs(t, row, size, nil, enc.Enc{}, api.ErrSize)
		allIs(t, row[:1], size, nil, enc.Enc{}, api.ErrSize)
		allIs(t, []api.Block{{loud + 1}}, size, nil, enc.Enc{}, api.ErrSize)
	}
	// Two frames that may not be are no better than one.
	allIs(t, []api.Block{{loud + 1}, {hushed - 1}}, 20, nil, enc.Enc{}, api.ErrArg)
}

// 15.3: frame by frame, the state in the encoder is that which a decoder has behind the same packets, also if their sizes are unlike each other.
func TestInStep(t *testing.T) {
	next := mixed()
	for _, row := range rows() {
		for size := fewest - 1; size <= greatest; size++ {
			var e enc.Enc
			var s state.State
			for i, b := range row {
				n := size
				if n < fewest {
					n = fewest + below(next, 23)
				}
				packet, then, err := enc.Encode(e, b, n)
				if err != api.OK || len(packet) != n {
					t.Fatalf("the %d-th frame, %d bytes: %x, %d", i, n, packet, err)
				}
				if _, s, err = dec.Decode(s, packet); err != api.OK || then.State != s {
					t.Fatalf("the %d-th frame, %d bytes: the encoder's state is %v, the decoder's %v, %d", i, n, then.State, s, err)
				}
				e = then
			}
			if size < fewest {
				continue
			}
			if _, end, _ := enc.All(row, size); end != e || end.State != s {
				t.Errorf("All of %d frames, %d bytes: %v, want %v", len(row), size, end, e)
			}
		}
	}
}

// What was recorded is heard one frame later, the more like it the more bytes there are for it: no promise by itself, but what packets are for.
func TestHeard(t *testing.T) {
	row := rows()[2]
	off := func(size int) int {
		packets, _, _ := enc.All(row, size)
		var s state.State
		sum := 0
		for i, packet := range packets {
			var sound api.Block
			sound, s, _ = dec.Decode(s, packet)
			for n, x := range sound {
				if i > 0 {
					sum += unsigned(x - row[i-1][n])
				}
			}
		}
		return sum
	}
	all := 0
	for _, b := range row[:15] {
		for _, x := range b {
			all += unsigned(x)
		}
	}
	if few, many := off(fewest), off(greatest); many >= few || many*2 > all {
		t.Errorf("of %d in sum, what is heard is off by %d of packets of ten bytes, by %d of 32", all, few, many)
	}
}

// 15.3: frames of 0s from the zero encoder on: packets of zero bytes, no sound, and nothing is remembered.
func TestSilence(t *testing.T) {
	for size := fewest; size <= greatest; size++ {
		packets, e, err := enc.All(make([]api.Block, 20), size)
		if len(packets) != 20 || e != (enc.Enc{}) || err != api.OK {
			t.Fatalf("All of silence, %d bytes: %d packets, %v, %d", size, len(packets), e, err)
		}
		var s state.State
		for _, packet := range packets {
			sound, then, err := dec.Decode(s, packet)
			if packet != string(make([]byte, size)) || sound != (api.Block{}) || then != (state.State{}) || err != api.OK {
				t.Fatalf("silence as %x: %v, %v, %d", packet, sound, then, err)
			}
			s = then
		}
	}
}

// What is handed in isn't changed, spare room included; what is handed out is new memory, spare room included.
func TestNothingIsKept(t *testing.T) {
	whole := slices.Concat(rows()...)
	row := slices.Clone(whole)[:40]
	first, then, err := enc.All(row, 20)
	if !slices.Equal(row[:cap(row)][:len(whole)], whole) || err != api.OK {
		t.Fatalf("All changed what it was handed (%d)", err)
	}
	want := slices.Clone(first)
	second, _, _ := enc.All(row, 20)
	for _, l := range [][]string{first, second} {
		l = l[:cap(l)]
		for i := range l {
			l[i] = "spoiled"
		}
		allIs(t, row, 20, want, then, api.OK)
	}
	first, _, _ = enc.All(row, 20)
	second, _, _ = enc.All(row, 20)
	clear(first[:cap(first)])
	if !slices.Equal(second, want) {
		t.Errorf("the packets are those of an earlier answer: %x", second)
	}
	// The frames are no longer those that were handed in; what was made of them stays.
	clear(row)
	if !slices.Equal(second, want) {
		t.Errorf("the packets hang on frames of later: %x", second)
	}
}
