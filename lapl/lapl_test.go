package lapl_test

import (
	"math"
	"testing"

	"spool/api"
	"spool/lapl"
	"spool/rang"
)

// row is a number, its cell, and what it costs.
type row struct{ v, start, width, cost int }

// rows answers all numbers that have a cell, in the order in which the cells stand; they were worked out apart.
func rows() []row {
	return []row{
		{0, 0, 12568, 2},
		{1, 12568, 5000, 3},
		{-1, 17568, 5000, 3},
		{2, 22568, 2500, 4},
		{-2, 25068, 2500, 4},
		{3, 27568, 1250, 5},
		{-3, 28818, 1250, 5},
		{4, 30068, 625, 6},
		{-4, 30693, 625, 6},
		{5, 31318, 312, 7},
		{-5, 31630, 312, 7},
		{6, 31942, 156, 8},
		{-6, 32098, 156, 8},
		{7, 32254, 78, 9},
		{-7, 32332, 78, 9},
		{8, 32410, 39, 10},
		{-8, 32449, 39, 10},
		{9, 32488, 19, 11},
		{-9, 32507, 19, 11},
		{10, 32526, 9, 12},
		{-10, 32535, 9, 12},
		{11, 32544, 8, 12},
		{-11, 32552, 8, 12},
		{12, 32560, 8, 12},
		{-12, 32568, 8, 12},
		{13, 32576, 8, 12},
		{-13, 32584, 8, 12},
		{14, 32592, 8, 12},
		{-14, 32600, 8, 12},
		{15, 32608, 8, 12},
		{-15, 32616, 8, 12},
		{16, 32624, 8, 12},
		{-16, 32632, 8, 12},
		{17, 32640, 8, 12},
		{-17, 32648, 8, 12},
		{18, 32656, 8, 12},
		{-18, 32664, 8, 12},
		{19, 32672, 8, 12},
		{-19, 32680, 8, 12},
		{20, 32688, 8, 12},
		{-20, 32696, 8, 12},
		{21, 32704, 8, 12},
		{-21, 32712, 8, 12},
		{22, 32720, 8, 12},
		{-22, 32728, 8, 12},
		{23, 32736, 8, 12},
		{-23, 32744, 8, 12},
		{24, 32752, 8, 12},
		{-24, 32760, 8, 12},
	}
}

// others answers numbers that have no cell, and such as a narrower number would take for one that has.
func others() []int {
	list := []int{1 << 8, 1<<8 + 1, 1<<8 - 1, -(1 << 8), 1 << 15, 1<<15 - 1, -(1 << 15), 1 << 16, 1<<16 + 1, 1<<16 - 1, 1<<31 - 1, 1 << 31, -(1 << 31), 1 << 32, 1<<32 + 1, 1<<32 - 1, -(1 << 32), -(1 << 32) + 1, -(1 << 32) - 1, 1 << 62, 1<<63 - 2, math.MaxInt, math.MinInt, math.MinInt + 1, math.MinInt + 24}
	for k := 25; k < 300; k++ {
		list = append(list, k, -k)
	}
	return list
}

// mixed answers a row of numbers without an order to be seen, the same one each time.
func mixed() func() uint64 {
	x := uint64(88172645463325252)
	return func() uint64 {
		x ^= x << 13
		x ^= x >> 7
		x ^= x << 17
		return x
	}
}

// below answers a number from 0 to below n.
func below(next func() uint64, n int) int {
	return int(next() >> 20 % uint64(n))
}

// newEnc makes a coder that the test needs.
func newEnc(t *testing.T, size int) *rang.Enc {
	t.Helper()
	e, f := rang.NewEnc(size)
	if f != api.OK {
		t.Fatalf("NewEnc(%d) = %d", size, f)
	}
	return e
}

// 8.1: each number's cell, the chapter's example the first.
func TestCell(t *testing.T) {
	for _, r := range rows() {
		if start, width, ok := lapl.Cell(r.v); start != r.start || width != r.width || !ok {
			t.Errorf("Cell(%d) = %d, %d, %t, want %d, %d", r.v, start, width, ok, r.start, r.width)
		}
	}
}

// 8.1: the widths as the chapter tells them, also those that are 8 at least.
func TestWidths(t *testing.T) {
	left := 1 << 15
	halved := 5000
	for k := 1; k <= 24; k++ {
		want := max(halved, 8)
		for _, v := range []int{k, -k} {
			if _, width, ok := lapl.Cell(v); width != want || !ok {
				t.Errorf("Cell(%d) is %d wide, %t, want %d", v, width, ok, want)
			}
		}
		left -= 2 * want
		halved /= 2
	}
	if _, width, ok := lapl.Cell(0); width != left || !ok {
		t.Errorf("Cell(0) is %d wide, %t, want %d", width, ok, left)
	}
}

// 8.1: of another number.
func TestCellOfOthers(t *testing.T) {
	for _, v := range others() {
		if start, width, ok := lapl.Cell(v); start != 0 || width != 0 || ok {
			t.Errorf("Cell(%d) = %d, %d, %t", v, start, width, ok)
		}
	}
}

// 8.1, 8.3: each place of each cell, its first and its last among them, is that number's, and no place is left.
func TestFind(t *testing.T) {
	places := 0
	for _, r := range rows() {
		for place := r.start; place < r.start+r.width; place++ {
			if v, ok := lapl.Find(place); v != r.v || !ok {
				t.Fatalf("Find(%d) = %d, %t, want %d", place, v, ok, r.v)
			}
			places++
		}
	}
	if places != 1<<15 {
		t.Errorf("%d places", places)
	}
}

// 8.1: the first place, and the last.
func TestFindAtTheEnds(t *testing.T) {
	if v, ok := lapl.Find(0); v != 0 || !ok {
		t.Errorf("Find(0) = %d, %t", v, ok)
	}
	if v, ok := lapl.Find(1<<15 - 1); v != -24 || !ok {
		t.Errorf("Find(2^15 - 1) = %d, %t", v, ok)
	}
}

// 8.1: of another place.
func TestFindOfOthers(t *testing.T) {
	list := []int{-1, -2, -8, -24, -12568, -(1 << 15), -(1 << 15) + 1, 1 << 15, 1<<15 + 1, 1<<15 + 8, 40000, 1<<16 - 1, 1 << 16, 1<<16 + 1, 1<<31 - 1, 1 << 31, -(1 << 31), 1<<32 - 1, 1 << 32, 1<<32 + 1, 1<<32 + 20000, -(1 << 32), -(1 << 32) + 20000, 1 << 62, math.MaxInt, math.MaxInt - 1, math.MinInt, math.MinInt + 1, math.MinInt + 20000}
	for _, place := range list {
		if v, ok := lapl.Find(place); v != 0 || ok {
			t.Errorf("Find(%d) = %d, %t", place, v, ok)
		}
	}
}

// 8.2: a number is put as chapter 7 puts its cell, alone and behind others.
func TestPut(t *testing.T) {
	next := mixed()
	list := rows()
	for i, r := range list {
		e, want := newEnc(t, 40), newEnc(t, 40)
		for range 12 {
			if f := lapl.Put(e, r.v); f != api.OK {
				t.Fatalf("Put(%d) = %d", r.v, f)
			}
			want.Put(r.start, r.width, 1<<15)
			alike(t, e, want)
			r = list[(i+below(next, len(list)))%len(list)]
		}
	}
}

// alike holds a coder's bytes and used bits against those of another one.
func alike(t *testing.T, e, want *rang.Enc) {
	t.Helper()
	got, f := e.Done()
	text, g := want.Done()
	if got != text || f != g || e.Used() != want.Used() {
		t.Fatalf("Done = %x, %d, want %x, %d, and %d bits are used, want %d", got, f, text, g, e.Used(), want.Used())
	}
}

// 8.2: bytes and used bits that were worked out apart.
func TestPutBytes(t *testing.T) {
	for _, c := range []struct {
		list  []int
		bytes string
		used  int
	}{
		{nil, "\x00\x00\x00\x00\x00\x00\x00\x00", 0},
		{[]int{0}, "\x00\x00\x00\x00\x00\x00\x00\x00", 1},
		{[]int{1}, "\x62\x2f\xce\xe8\x00\x00\x00\x00", 2},
		{[]int{-1}, "\x89\x3f\xbb\x60\x00\x00\x00\x00", 2},
		{[]int{2}, "\xb0\x4f\xa7\xd8\x00\x00\x00\x00", 3},
		{[]int{-2}, "\xc3\xd7\x9e\x14\x00\x00\x00\x00", 3},
		{[]int{10}, "\xfe\x1b\x80\xf2\x00\x00\x00\x00", 11},
		{[]int{-24}, "\xff\xef\x80\x08\x00\x00\x00\x00", 12},
		{[]int{24}, "\xff\xdf\x80\x10\x00\x00\x00\x00", 12},
		{[]int{0, 0}, "\x00\x00\x00\x00\x00\x00\x00\x00", 2},
		{[]int{0, -1, 0}, "\x34\xa3\xf7\x60\x00\x00\x00\x00", 5},
		{[]int{-24, -24}, "\xff\xff\x7e\x88\x08\x00\x00\x00", 24},
		{[]int{24, 0, -11}, "\xff\xe5\x98\x35\xc8\x00\x00\x00", 25},
		{[]int{5, -6, 1}, "\xf7\x0f\x69\x55\x68\x00\x00\x00", 17},
	} {
		e := newEnc(t, 8)
		for _, v := range c.list {
			if f := lapl.Put(e, v); f != api.OK {
				t.Errorf("Put(%d) = %d", v, f)
			}
		}
		if got, f := e.Done(); got != c.bytes || f != api.OK || e.Used() != c.used {
			t.Errorf("%d: Done = %x, %d, want %x, and %d bits are used, want %d", c.list, got, f, c.bytes, e.Used(), c.used)
		}
	}
}

// 8.2: another number is refused, and nothing is changed by it; nil is refused, whatever the number.
func TestPutOfOthers(t *testing.T) {
	list := rows()
	e, want := newEnc(t, 2000), newEnc(t, 2000)
	for i, v := range others() {
		if f := lapl.Put(e, v); f != api.ErrArg {
			t.Fatalf("Put(%d) = %d", v, f)
		}
		alike(t, e, want)
		if i%5 == 0 {
			r := list[i/5%len(list)]
			lapl.Put(e, r.v)
			want.Put(r.start, r.width, 1<<15)
		}
		if f := lapl.Put(nil, v); f != api.ErrArg {
			t.Errorf("Put(nil, %d) = %d", v, f)
		}
	}
	for _, r := range list {
		if f := lapl.Put(nil, r.v); f != api.ErrArg {
			t.Errorf("Put(nil, %d) = %d", r.v, f)
		}
	}
}

// 8.2: a coder takes more than it has room for, as chapter 7 says; only at its end it is told.
func TestPutBeyondTheSize(t *testing.T) {
	e, want := newEnc(t, 1), newEnc(t, 1)
	for _, r := range rows() {
		if f := lapl.Put(e, r.v); f != api.OK {
			t.Errorf("Put(%d) = %d", r.v, f)
		}
		want.Put(r.start, r.width, 1<<15)
		alike(t, e, want)
	}
	if s, f := e.Done(); s != "" || f != api.ErrFull {
		t.Errorf("Done = %x, %d", s, f)
	}
}

// 8.2: of nil.
func TestTakeOfNil(t *testing.T) {
	if v, f := lapl.Take(nil); v != 0 || f != api.ErrArg {
		t.Errorf("Take(nil) = %d, %d", v, f)
	}
}

// rowAt answers the row whose cell a place lies in.
func rowAt(place int) row {
	var found row
	for _, r := range rows() {
		if place >= r.start {
			found = r
		}
	}
	return found
}

// texts answers texts of no byte, of few and of many: of one byte, and mixed.
func texts() []string {
	next := mixed()
	list := []string{"", "\x80", "\xff\xff\xff\xff", "\xff\xff\xff\xfe", "\x00\x00\x00\x00\x01"}
	for n := 1; n < 14; n++ {
		for _, b := range []byte{0, 1, 0x7f, 0x80, 0xff} {
			bytes := make([]byte, n)
			for i := range bytes {
				bytes[i] = b
			}
			list = append(list, string(bytes))
		}
		for range 30 {
			bytes := make([]byte, n)
			for i := range bytes {
				bytes[i] = byte(next() >> 30)
			}
			list = append(list, string(bytes))
		}
	}
	return list
}

// 8.2: of any text, up to behind its end, the number whose cell chapter 7's place lies in is taken, and that cell.
func TestTake(t *testing.T) {
	for _, text := range texts() {
		d, want := rang.NewDec(text), rang.NewDec(text)
		for i := range 30 {
			place, _ := want.At(1 << 15)
			r := rowAt(place)
			want.Take(r.start, r.width, 1<<15)
			if v, f := lapl.Take(d); v != r.v || f != api.OK || d.Used() != want.Used() {
				t.Fatalf("%x, %d: Take = %d, %d, want %d, and %d bits are used, want %d", text, i, v, f, r.v, d.Used(), want.Used())
			}
		}
		a, _ := d.Bits(24)
		if b, _ := want.Bits(24); a != b {
			t.Fatalf("%x: behind the numbers %x, want %x", text, a, b)
		}
	}
}

// 8.2: what is taken of texts that were worked out apart: the first and the last place of a cell, and beyond the end.
func TestTakeOfTexts(t *testing.T) {
	for _, c := range []struct {
		text string
		want int
	}{
		{"", 0},
		{"\x00", 0},
		{"\x01", 0},
		{"\x62", 0},
		{"\x63", 1},
		{"\x7f", 1},
		{"\xff", 17},
		{"\xff\xff\xff\xff", -24},
		{"\xff\xff\xff\xff\xff\xff", -24},
		{"\x62\x2f\xce\xe8", 1},
		{"\x62\x2f\xce\xe7", 0},
		{"\x89\x3f\xbb\x60", -1},
		{"\x89\x3f\xbb\x5f", 1},
		{"\xb0\x4f\xa7\xd8", 2},
		{"\xb0\x4f\xa7\xd7", -1},
		{"\xfe\x1b\x80\xf2", 10},
		{"\xfe\x1b\x80\xf1", -9},
		{"\xfe\x2d\x80\xe9", -10},
		{"\xfe\x2d\x80\xe8", 10},
		{"\xfe\x3f\x80\xe0", 11},
		{"\xfe\x3f\x80\xdf", -10},
		{"\xff\xdf\x80\x10", 24},
		{"\xff\xdf\x80\x0f", -23},
		{"\xff\xef\x80\x08", -24},
		{"\xff\xef\x80\x07", 24},
	} {
		if v, f := lapl.Take(rang.NewDec(c.text)); v != c.want || f != api.OK {
			t.Errorf("Take of %x = %d, %d, want %d", c.text, v, f, c.want)
		}
	}
}

// 8.2
func TestCost(t *testing.T) {
	for _, r := range rows() {
		if n := lapl.Cost(r.v); n != r.cost {
			t.Errorf("Cost(%d) = %d, want %d", r.v, n, r.cost)
		}
		// So many halvings make no more than the width, and one less makes more.
		if n := lapl.Cost(r.v); n < 1 || 1<<15>>n > r.width || 1<<15>>(n-1) <= r.width {
			t.Errorf("Cost(%d) = %d, of a width of %d", r.v, n, r.width)
		}
	}
	for _, v := range others() {
		if n := lapl.Cost(v); n != 0 {
			t.Errorf("Cost(%d) = %d", v, n)
		}
	}
}

// 8.3: the cells are all of 2^15, and none lies over another.
func TestCellsAreAll(t *testing.T) {
	var had [1 << 15]int
	for v := -24; v <= 24; v++ {
		start, width, ok := lapl.Cell(v)
		if !ok || start < 0 || width < 1 || start+width > 1<<15 {
			t.Fatalf("Cell(%d) = %d, %d, %t", v, start, width, ok)
		}
		for place := start; place < start+width; place++ {
			had[place]++
			if of, ok := lapl.Find(place); of != v || !ok {
				t.Fatalf("Find(%d) = %d, %t, but it is %d's", place, of, ok, v)
			}
		}
	}
	for place, n := range had {
		if n != 1 {
			t.Fatalf("%d lies in %d cells", place, n)
		}
	}
}

// 8.3: a number further from 0 has no wider a cell, and no less a cost.
func TestFurtherIsNoWider(t *testing.T) {
	for k := range 25 {
		for far := k; far < 25; far++ {
			for _, pair := range [][2]int{{k, far}, {k, -far}, {-k, far}, {-k, -far}} {
				_, width, _ := lapl.Cell(pair[0])
				if _, w, _ := lapl.Cell(pair[1]); w > width {
					t.Errorf("%d has a cell of %d, %d one of %d", pair[0], width, pair[1], w)
				}
				if lapl.Cost(pair[1]) < lapl.Cost(pair[0]) {
					t.Errorf("%d costs %d, %d costs %d", pair[0], lapl.Cost(pair[0]), pair[1], lapl.Cost(pair[1]))
				}
			}
		}
	}
}

// 8.3: what is put is taken again: each number behind each other one.
func TestEachBehindEach(t *testing.T) {
	for a := -24; a <= 24; a++ {
		for b := -24; b <= 24; b++ {
			again(t, []int{a, b, a})
		}
	}
}

// 8.3: what is put is taken again: rows of any numbers, the same one many times among them.
func TestRowsAgain(t *testing.T) {
	next := mixed()
	for n := range 300 {
		list := make([]int, n)
		for i := range list {
			list[i] = below(next, 49) - 24
			if n%3 == 0 {
				list[i] = below(next, 5) - 2
			}
		}
		again(t, list)
	}
	for v := -24; v <= 24; v++ {
		list := make([]int, 1000)
		for i := range list {
			list[i] = v
		}
		again(t, list)
	}
}

// again puts all numbers, with bits among them, takes them again, and holds the used bits against each other and against what the numbers cost.
func again(t *testing.T, list []int) {
	t.Helper()
	e := newEnc(t, 4096)
	var used []int
	cost := 0
	for i, v := range list {
		cost += lapl.Cost(v)
		if f := lapl.Put(e, v); f != api.OK {
			t.Fatalf("%d: Put(%d) = %d", list, v, f)
		}
		used = append(used, e.Used())
		e.Bits(i%8, 3)
	}
	text, f := e.Done()
	if f != api.OK {
		t.Fatalf("%d: Done is refused: %d", list, f)
	}
	// A step is rounded down, which takes less than the 300th part of a bit of each cell's.
	if e.Used() > cost+3*len(list)+len(list)/300+1 {
		t.Errorf("%d: %d bits are used, of a cost of %d", list, e.Used(), cost+3*len(list))
	}
	d := rang.NewDec(text)
	for i, v := range list {
		if got, f := lapl.Take(d); got != v || f != api.OK || d.Used() != used[i] {
			t.Fatalf("%d: the %d. is %d, %d, want %d, and %d bits are used, want %d", list, i, got, f, v, d.Used(), used[i])
		}
		if x, _ := d.Bits(3); x != i%8 {
			t.Fatalf("%d: behind the %d. there is %d", list, i, x)
		}
	}
}
