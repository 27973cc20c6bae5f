package rang_test

import (
	"math"
	"math/big"
	"slices"
	"strings"
	"testing"

	"spool/api"
	"spool/rang"
)

// cell is a cell, or three numbers that are none.
type cell struct{ start, width, total int }

// mixed answers a row of numbers without an order to be seen, the same one each time.
func mixed() func() uint64 {
	x := uint64(88172645463325252)
	return func() uint64 {
		x ^= x << 13
		x ^= x >> 7
		x ^= x << 17
		return x
	}
}

// below answers a number from 0 to below n.
func below(next func() uint64, n int) int {
	return int(next() >> 20 % uint64(n))
}

// someCell answers a cell of any total, narrow ones and whole ones among them.
func someCell(next func() uint64) cell {
	total := 1 + below(next, 1<<below(next, 16))
	if below(next, 8) == 0 {
		total = 1 << below(next, 16)
	}
	start := below(next, total)
	if below(next, 4) == 0 {
		start = total - 1
	}
	width := 1
	switch below(next, 3) {
	case 0:
		width = 1 + below(next, total-start)
	case 1:
		width = total - start
	}
	return cell{start, width, total}
}

// cellsOf answers the cells of a number of n bits, as the chapter tells them.
func cellsOf(x, n int) []cell {
	var list []cell
	for n >= 8 {
		list = append(list, cell{x % 256, 1, 256})
		x, n = x/256, n-8
	}
	if n > 0 {
		list = append(list, cell{x, 1, 1 << n})
	}
	return list
}

// digits answers how many binary digits x has.
func digits(x uint64) int {
	n := 0
	for ; x > 0; x /= 2 {
		n++
	}
	return n
}

// toldEnc is a coder, word by word as the chapter tells it, whose low is a number of any size.
type toldEnc struct {
	low  *big.Int
	span uint64
	gone int
}

func newToldEnc() *toldEnc {
	return &toldEnc{low: new(big.Int), span: 1<<32 - 1}
}

func (e *toldEnc) put(c cell) {
	step := e.span / uint64(c.total)
	e.low.Add(e.low, new(big.Int).SetUint64(step*uint64(c.start)))
	e.span = step * uint64(c.width)
	for e.span < 1<<24 {
		e.low.Lsh(e.low, 8)
		e.span *= 256
		e.gone++
	}
}

func (e *toldEnc) used() int {
	return 8*e.gone + 32 - digits(e.span)
}

// all answers low's bytes.
func (e *toldEnc) all() string {
	return string(e.low.FillBytes(make([]byte, 4+e.gone)))
}

// need answers how many bytes there are without the zero ones at the end.
func (e *toldEnc) need() int {
	bytes := e.all()
	n := len(bytes)
	for n > 0 && bytes[n-1] == 0 {
		n--
	}
	return n
}

func (e *toldEnc) done(size int) (string, api.Errno) {
	if e.need() > size {
		return "", api.ErrFull
	}
	filled := make([]byte, size)
	copy(filled, e.all())
	return string(filled), api.OK
}

// left answers how far low is from a point, which is the number of those bytes and of zero bytes behind them.
func (e *toldEnc) left(point string) uint64 {
	bytes := make([]byte, 4+e.gone)
	copy(bytes, point)
	return new(big.Int).Sub(new(big.Int).SetBytes(bytes), e.low).Uint64()
}

// around answers a cell of that total, or of the next one that has such a cell, which the point lies in, but not where it starts.
func (e *toldEnc) around(t *testing.T, point string, total int) cell {
	t.Helper()
	left := e.left(point)
	for ; total <= 1<<15; total++ {
		step := e.span / uint64(total)
		if left%step != 0 && left/step < uint64(total) {
			return cell{int(left / step), 1, total}
		}
	}
	t.Fatalf("no cell around %x", point)
	return cell{}
}

// at answers a cell that starts at the point.
func (e *toldEnc) at(point string) (cell, bool) {
	left := e.left(point)
	for total := 1 << 15; total > 0; total-- {
		step := e.span / uint64(total)
		if left%step == 0 && left/step < uint64(total) {
			return cell{int(left / step), 1, total}, true
		}
	}
	return cell{}, false
}

// toldDec is a decoder, word by word as the chapter tells it.
type toldDec struct {
	text string
	code uint64
	span uint64
	gone int
}

func newToldDec(s string) *toldDec {
	d := &toldDec{text: s, span: 1<<32 - 1}
	for i := range 4 {
		d.code = d.code*256 + d.byteAt(i)
	}
	return d
}

func (d *toldDec) byteAt(i int) uint64 {
	if i < len(d.text) {
		return uint64(d.text[i])
	}
	return 0
}

func (d *toldDec) at(total int) int {
	place := d.code / (d.span / uint64(total))
	if place >= uint64(total) {
		return total - 1
	}
	return int(place)
}

func (d *toldDec) take(c cell) {
	step := d.span / uint64(c.total)
	d.code = (d.code + 1<<32 - step*uint64(c.start)) % (1 << 32)
	d.span = step * uint64(c.width)
	for d.span < 1<<24 {
		d.span = d.span * 256 % (1 << 32)
		d.code = (d.code*256 + d.byteAt(4+d.gone)) % (1 << 32)
		d.gone++
	}
}

func (d *toldDec) used() int {
	return 8*d.gone + 32 - digits(d.span)
}

// side has coders of several sizes, to which the same is put, beside the one that is told.
type side struct {
	t     *testing.T
	told  *toldEnc
	sizes []int
	encs  []*rang.Enc
	cells []cell
}

func newSide(t *testing.T, sizes ...int) *side {
	t.Helper()
	s := &side{t: t, told: newToldEnc(), sizes: sizes}
	for _, size := range sizes {
		e, f := rang.NewEnc(size)
		if f != api.OK || e == nil {
			t.Fatalf("NewEnc(%d) = %v, %d", size, e, f)
		}
		s.encs = append(s.encs, e)
	}
	return s
}

// put puts a cell everywhere, and holds the used bits against those that are told.
func (s *side) put(c cell) {
	s.t.Helper()
	s.told.put(c)
	s.cells = append(s.cells, c)
	for i, e := range s.encs {
		if f := e.Put(c.start, c.width, c.total); f != api.OK || e.Used() != s.told.used() {
			s.t.Fatalf("size %d: Put(%v) = %d, and %d bits are used, want %d", s.sizes[i], c, f, e.Used(), s.told.used())
		}
	}
}

// bits puts a number everywhere: it is told by its cells.
func (s *side) bits(x, n int) {
	s.t.Helper()
	for _, c := range cellsOf(x, n) {
		s.told.put(c)
		s.cells = append(s.cells, c)
	}
	for i, e := range s.encs {
		if f := e.Bits(x, n); f != api.OK || e.Used() != s.told.used() {
			s.t.Fatalf("size %d: Bits(%d, %d) = %d, and %d bits are used, want %d", s.sizes[i], x, n, f, e.Used(), s.told.used())
		}
	}
}

// done asks all coders for their bytes, twice.
func (s *side) done() {
	s.t.Helper()
	need, all := s.told.need(), s.told.all()
	for i, e := range s.encs {
		want, wanted := "", api.ErrFull
		if need <= s.sizes[i] {
			want, wanted = s.told.done(s.sizes[i])
		}
		for range 2 {
			if got, f := e.Done(); got != want || f != wanted {
				s.t.Fatalf("size %d, %d cells: Done = %x, %d; want %x, %d, of %x", s.sizes[i], len(s.cells), got, f, want, wanted, all)
			}
		}
	}
}

// met takes all cells again, of the bytes of the coders that have them.
func (s *side) met() {
	s.t.Helper()
	for i, e := range s.encs {
		text, f := e.Done()
		if f != api.OK {
			continue
		}
		d, told := rang.NewDec(text), newToldEnc()
		for _, c := range s.cells {
			place, f := d.At(c.total)
			if f != api.OK || place < c.start || place-c.start >= c.width {
				s.t.Fatalf("size %d: At(%d) = %d, %d; it was %v that was put", s.sizes[i], c.total, place, f, c)
			}
			told.put(c)
			if f := d.Take(c.start, c.width, c.total); f != api.OK || d.Used() != told.used() {
				s.t.Fatalf("size %d: Take(%v) = %d, and %d bits are used, want %d", s.sizes[i], c, f, d.Used(), told.used())
			}
		}
	}
}

// ends answers the numbers next to the bounds, and such as a narrower number would take for one within.
func ends() []int {
	return []int{0, 1, 2, 3, -1, -2, 255, 256, 257, 1<<15 - 1, 1 << 15, 1<<15 + 1, -(1 << 15), 1 << 16, 1<<16 + 1, 1<<31 - 1, 1 << 31, 1<<32 - 1, 1 << 32, 1<<32 + 1, -(1 << 32) + 1, 1 << 62, math.MaxInt, math.MaxInt - 1, math.MinInt, math.MinInt + 1}
}

// told tells whether a cell is one; the sum is of any size.
func (c cell) told() bool {
	sum := new(big.Int).Add(big.NewInt(int64(c.start)), big.NewInt(int64(c.width)))
	return c.total >= 1 && c.total <= 1<<15 && c.start >= 0 && c.width >= 1 && sum.Cmp(big.NewInt(int64(c.total))) <= 0
}

// edgeCells answers all cells that are made of ends, and those numbers of which no cell is made.
func edgeCells() (cells, others []cell) {
	for _, start := range ends() {
		for _, width := range ends() {
			for _, total := range ends() {
				if c := (cell{start, width, total}); c.told() {
					cells = append(cells, c)
				} else {
					others = append(others, c)
				}
			}
		}
	}
	return cells, others
}

// 7.1
func TestNewEnc(t *testing.T) {
	for _, size := range []int{0, -1, -2, 4097, 4098, 8192, -4096, 1 << 16, 1<<16 + 1, 1 << 32, 1<<32 + 1, 1 << 62, math.MaxInt, math.MinInt, math.MinInt + 1} {
		if e, f := rang.NewEnc(size); e != nil || f != api.ErrArg {
			t.Errorf("NewEnc(%d) = %v, %d", size, e, f)
		}
	}
	for _, size := range []int{1, 2, 3, 4, 5, 10, 32, 255, 256, 4095, 4096} {
		if e, f := rang.NewEnc(size); e == nil || f != api.OK || e.Used() != 0 {
			t.Errorf("NewEnc(%d) = %v, %d", size, e, f)
		}
	}
}

// 7.1: the chapter's example, of all sizes.
func TestDoneOfNothing(t *testing.T) {
	for size := 1; size <= 4096; size++ {
		e, f := rang.NewEnc(size)
		if f != api.OK {
			t.Fatalf("NewEnc(%d) = %d", size, f)
		}
		if s, f := e.Done(); s != strings.Repeat("\x00", size) || f != api.OK {
			t.Fatalf("size %d: Done = %x, %d", size, s, f)
		}
	}
}

// 7.1: bytes and used bits that were worked out apart.
func TestPut(t *testing.T) {
	for _, c := range []struct {
		cells []cell
		bytes string
		used  int
	}{
		{nil, "", 0},
		{[]cell{{0, 1, 1}}, "", 0},
		{[]cell{{0, 1, 2}}, "", 1},
		{[]cell{{1, 1, 2}}, "\x7f\xff\xff\xff", 1},
		{[]cell{{0, 32768, 32768}}, "", 0},
		{[]cell{{0, 1, 32768}}, "", 15},
		{[]cell{{32767, 1, 32768}}, "\xff\xfd\x80\x01", 15},
		{[]cell{{1, 2, 3}}, "\x55\x55\x55\x55", 0},
		{[]cell{{2, 1, 3}}, "\xaa\xaa\xaa\xaa", 1},
		{[]cell{{999, 1, 1000}}, "\xff\xbe\x75\xa1", 9},
		{[]cell{{5, 20, 32768}}, "\x00\x09\xff\xfb", 10},
		{[]cell{{255, 1, 256}, {255, 1, 256}}, "\xff\xfe\xff\x00\x01", 16},
		{[]cell{{1, 1, 2}, {1, 1, 2}, {1, 1, 2}}, "\xdf\xff\xff\xfd", 3},
		{[]cell{{32767, 1, 32768}, {32767, 1, 32768}, {32767, 1, 32768}}, "\xff\xff\x7f\x80\xff\xf8\x02", 45},
		{[]cell{{0, 1, 2}, {999, 1, 1000}, {5, 20, 32768}, {2, 1, 3}, {0, 32768, 32768}, {255, 1, 256}}, "\x7f\xdf\x3f\x41\x45\xd4", 31},
	} {
		for size := max(1, len(c.bytes)-1); size < 12; size++ {
			e, _ := rang.NewEnc(size)
			for _, one := range c.cells {
				if f := e.Put(one.start, one.width, one.total); f != api.OK {
					t.Errorf("Put(%v) = %d", one, f)
				}
			}
			want, wanted := "", api.ErrFull
			if size >= len(c.bytes) {
				want, wanted = c.bytes+strings.Repeat("\x00", size-len(c.bytes)), api.OK
			}
			if got, f := e.Done(); got != want || f != wanted || e.Used() != c.used {
				t.Errorf("%v, size %d: Done = %x, %d; want %x, %d, and %d bits are used, want %d", c.cells, size, got, f, want, wanted, e.Used(), c.used)
			}
		}
	}
}

// 7.1: numbers' bytes that were worked out apart.
func TestBits(t *testing.T) {
	for _, c := range []struct {
		x, n  int
		bytes string
	}{
		{0, 0, ""},
		{0, 1, ""},
		{1, 1, "\x7f\xff\xff\xff"},
		{1, 2, "\x3f\xff\xff\xff"},
		{2, 2, "\x7f\xff\xff\xfe"},
		{255, 8, "\xfe\xff\xff\x01"},
		{1, 8, "\x00\xff\xff\xff"},
		{256, 9, "\x00\x7f\xff\xff\x80"},
		{1 << 16, 17, "\x00\x00\x7f\xff\xff\x80"},
		{0x12345, 20, "\x45\x23\x0f\xba\xdc\xf0"},
		{0, 24, ""},
		{1 << 16, 24, "\x00\x00\x00\xff\xff\xff"},
		{0xabcdef, 24, "\xef\xcd\xaa\x10\x32\x55"},
		{1<<24 - 1, 24, "\xff\xff\xfe\x00\x00\x01"},
	} {
		e, _ := rang.NewEnc(6)
		f := e.Bits(c.x, c.n)
		want := c.bytes + strings.Repeat("\x00", 6-len(c.bytes))
		if got, done := e.Done(); f != api.OK || done != api.OK || got != want || e.Used() != c.n {
			t.Errorf("Bits(%#x, %d) = %d; Done = %x, %d; want %x, and %d bits are used", c.x, c.n, f, got, done, want, e.Used())
		}
	}
}

// 7.1: a number of any bits is put as its cells are, alone and behind others.
func TestBitsAreCells(t *testing.T) {
	next := mixed()
	for n := range 25 {
		for _, x := range []int{0, 1<<n - 1, 1 << n / 2, below(next, 1<<n), below(next, 1<<n)} {
			for range 10 {
				s := newSide(t, 1, 6, 20)
				for range below(next, 4) {
					s.put(someCell(next))
				}
				s.bits(x, n)
				s.done()
				s.bits(x, n)
				s.done()
				s.met()
			}
		}
	}
}

// 7.1, 7.2: each cell of ends is put and taken.
func TestEdgeCells(t *testing.T) {
	cells, _ := edgeCells()
	if len(cells) == 0 {
		t.Fatal("no cells")
	}
	for i, c := range cells {
		s := newSide(t, 1, 4, 5, 30)
		s.put(c)
		s.done()
		s.put(cells[(i*7+3)%len(cells)])
		s.put(c)
		s.done()
		s.met()
	}
}

// 7.1: what is no cell is refused, and nothing is changed by it.
func TestPutOfNoCell(t *testing.T) {
	_, others := edgeCells()
	next := mixed()
	s := newSide(t, 2, 40)
	for i, c := range others {
		for _, e := range s.encs {
			if f := e.Put(c.start, c.width, c.total); f != api.ErrArg {
				t.Fatalf("Put(%v) = %d", c, f)
			}
			if e.Used() != s.told.used() {
				t.Fatalf("a refused Put(%v) used %d bits", c, e.Used()-s.told.used())
			}
		}
		if i%500 == 0 {
			s.done()
			s.put(someCell(next))
		}
	}
	s.done()
	s.met()
}

// 7.1: start and width just at the total, and one beyond, of each total.
func TestPutAtTheTotal(t *testing.T) {
	for total := 1; total <= 1<<15; total += 1 + total/50 {
		for _, start := range []int{0, 1, total / 2, total - 2, total - 1, total, total + 1} {
			for width := total - start - 1; width <= total-start+1; width++ {
				c := cell{start, width, total}
				e, _ := rang.NewEnc(8)
				d := rang.NewDec("\x12\x34\x56")
				want := api.ErrArg
				if c.told() {
					want = api.OK
				}
				if f := e.Put(start, width, total); f != want {
					t.Fatalf("Put(%v) = %d, want %d", c, f, want)
				}
				if f := d.Take(start, width, total); f != want {
					t.Fatalf("Take(%v) = %d, want %d", c, f, want)
				}
			}
		}
	}
}

// 7.1: another n, or a number that hasn't n bits, is refused, and nothing is changed by it.
func TestBitsOfOthers(t *testing.T) {
	s := newSide(t, 3, 40)
	refused := func(x, n int) {
		t.Helper()
		for _, e := range s.encs {
			if f := e.Bits(x, n); f != api.ErrArg || e.Used() != s.told.used() {
				t.Fatalf("Bits(%d, %d) = %d, and %d bits are used", x, n, f, e.Used()-s.told.used())
			}
		}
	}
	for _, n := range []int{-1, -2, -8, -64, 25, 26, 32, 33, 62, 63, 64, 65, 256, 257, 1 << 32, 1<<32 + 8, math.MaxInt, math.MinInt, math.MinInt + 8} {
		for _, x := range []int{0, 1, -1, math.MaxInt, math.MinInt} {
			refused(x, n)
		}
	}
	for n := range 25 {
		for _, x := range []int{1 << n, 1<<n + 1, 1 << (n + 8), 1 << 32, 1<<32 + 1, 1 << 62, math.MaxInt, -1, -2, -(1 << n), math.MinInt, math.MinInt + 1} {
			refused(x, n)
		}
		s.bits(1<<n-1, n)
		s.done()
	}
	s.met()
}

// 7.1, 7.2: of nil.
func TestNil(t *testing.T) {
	var e *rang.Enc
	var d *rang.Dec
	if e.Put(0, 1, 2) != api.ErrArg || e.Put(0, 0, 0) != api.ErrArg || e.Bits(0, 0) != api.ErrArg || e.Bits(1, 1) != api.ErrArg || e.Bits(0, -1) != api.ErrArg || e.Used() != 0 {
		t.Error("something is put to nil")
	}
	if s, f := e.Done(); s != "" || f != api.ErrArg {
		t.Errorf("Done of nil = %x, %d", s, f)
	}
	if d.Take(0, 1, 2) != api.ErrArg || d.Take(0, 0, 0) != api.ErrArg || d.Used() != 0 {
		t.Error("something is taken of nil")
	}
	for _, n := range []int{-1, 0, 1, 24, 25} {
		if x, f := d.At(n); x != 0 || f != api.ErrArg {
			t.Errorf("At(%d) of nil = %d, %d", n, x, f)
		}
		if x, f := d.Bits(n); x != 0 || f != api.ErrArg {
			t.Errorf("Bits(%d) of nil = %d, %d", n, x, f)
		}
	}
}

// 7.1: bytes that just fit, one too few for them, and many more, which are 0, at each step.
func TestDone(t *testing.T) {
	next := mixed()
	sizes := []int{1, 2, 3, 4, 5, 6, 7, 8, 9, 10, 11, 12, 13, 14, 15, 16, 17, 18, 19, 20, 32, 33, 100, 4096}
	for range 60 {
		s := newSide(t, sizes...)
		for range 20 {
			s.put(someCell(next))
			s.done()
		}
		s.met()
	}
}

// 7.1, 7.3: many cells of each kind, with which the greatest size is full too.
func TestDoneOfMany(t *testing.T) {
	next := mixed()
	kinds := []func() cell{
		func() cell { return someCell(next) },
		func() cell { return cell{32767, 1, 32768} },
		func() cell { return cell{32767 - below(next, 3), 1, 32768} },
		func() cell { return cell{0, 1, 32768} },
		func() cell { return cell{below(next, 32768), 1, 32768} },
		func() cell { return cell{below(next, 32), 1, 32768} },
		func() cell { return cell{254 + below(next, 2), 1, 256} },
		func() cell { return cell{below(next, 256), 1, 256} },
	}
	for _, kind := range kinds {
		s := newSide(t, 1, 2, 3, 50, 1000, 4095, 4096)
		for i := range 2600 {
			s.put(kind())
			if i%50 == 0 {
				s.done()
			}
		}
		s.done()
		s.met()
	}
}

// follow puts cells of about that total around the point, until it has gone so many bytes: low is below the point, and its bytes are 255, as far as the point's are 0.
func (s *side) follow(point string, total, gone int) {
	s.t.Helper()
	for s.told.gone < gone {
		s.put(s.told.around(s.t, point, total))
	}
}

// reach puts a cell at the point, behind others, if there is none yet.
func (s *side) reach(point string) {
	s.t.Helper()
	for {
		if c, ok := s.told.at(point); ok {
			s.put(c)
			return
		}
		s.put(s.told.around(s.t, point, 2))
	}
}

// 7.1: a carry goes through many bytes of low.
func TestCarry(t *testing.T) {
	for _, total := range []int{2, 3, 10, 256, 1000, 32768} {
		for _, more := range []int{0, 1, 2, 3, 4, 5, 7, 12, 40, 300} {
			for _, point := range []string{"\x80", "\x01", "\xff", "\x12\x34", "\x00\x00\x01", "\xfe\xff\x01"} {
				s := newSide(t, 1, 2, 3, 4, 5, 20, 305, 400)
				s.follow(point, total, len(point)+more)
				s.done()
				if !strings.HasPrefix(s.told.all(), point[:len(point)-1]+string([]byte{point[len(point)-1] - 1})) {
					t.Fatalf("low is not below %x: %x", point, s.told.all())
				}
				c := s.told.around(t, point, total)
				for ; c.start+1 >= c.total; c = s.told.around(t, point, c.total+1) {
				}
				s.put(cell{c.start + 1, 1, c.total})
				if !strings.HasPrefix(s.told.all(), point) {
					t.Fatalf("no carry to %x: %x", point, s.told.all())
				}
				s.done()
				s.put(cell{1, 2, 3})
				s.done()
				s.met()
			}
		}
	}
}

// 7.1: a carry through more bytes than the greatest size has room for.
func TestCarryThroughAll(t *testing.T) {
	s := newSide(t, 1, 2, 100, 4095, 4096)
	s.follow("\x80", 32768, 4200)
	s.done()
	s.reach("\x80")
	s.done()
	if _, f := s.encs[0].Done(); f != api.OK {
		t.Errorf("the bytes of %x are no one byte: %d", s.told.all()[:10], f)
	}
	s.met()
}

// 7.1: bytes that were more than fit may be fewer by a carry, which makes zeros of those at the end; what is put then may make them more again.
func TestCarryMakesRoom(t *testing.T) {
	for _, point := range []string{"\x80", "\x01", "\xff", "\x12\x34", "\x00\x01", "\x12\x34\x56\x78\x9a", "\xfe\xff\xff\xff\xff\xff\xff\x01"} {
		for gone := len(point); gone < len(point)+12; gone++ {
			n := len(point)
			s := newSide(t, max(1, n-1), n, n+1, n+4, n+40)
			s.follow(point, 2, gone)
			s.done()
			if _, f := s.encs[1].Done(); f != api.ErrFull {
				t.Fatalf("the bytes below %x fit: %d", point, f)
			}
			s.reach(point)
			s.done()
			if _, f := s.encs[1].Done(); f != api.OK {
				t.Fatalf("the bytes of %x don't fit: %d", point, f)
			}
			s.met()
			for range 5 {
				s.put(cell{0, 1, 32768})
				s.done()
			}
			s.met()
			s.put(cell{1, 1, 32768})
			s.done()
			if _, f := s.encs[1].Done(); f != api.ErrFull {
				t.Fatalf("the bytes behind %x fit: %d", point, f)
			}
			s.bits(0, 24)
			s.done()
		}
	}
}

// 7.1: a carry that comes into zero bytes which the size has no room for makes one of them 1, and no room.
func TestCarryIntoZeros(t *testing.T) {
	for zeros := range 8 {
		s := newSide(t, 1, 2, 3, 4, 5, 6, 7, 8, 40)
		s.follow("\x80", 2, 3)
		s.reach("\x80")
		s.done()
		for range zeros {
			s.put(cell{0, 1, 256})
			s.done()
		}
		gone := s.told.gone
		point := "\x80" + strings.Repeat("\x00", gone) + "\x01"
		s.follow(point, 2, gone+2)
		s.done()
		s.reach(point)
		s.done()
		for i, size := range s.sizes {
			want := api.OK
			if size < len(point) {
				want = api.ErrFull
			}
			if _, f := s.encs[i].Done(); f != want {
				t.Errorf("size %d, %x: %d", size, s.told.all(), f)
			}
		}
		s.bits(0, 24)
		s.done()
		s.met()
	}
}

// 7.1: bytes of 255 that the size has no room for are too many, also where nothing but zeros is behind them.
func TestNoRoomFor255s(t *testing.T) {
	for n := range 9 {
		point := "\x12" + strings.Repeat("\xff", n)
		s := newSide(t, 1, 2, 3, 4, 5, 6, 7, 8, 9, 10, 11, 40)
		s.follow(point, 2, max(0, n-3))
		s.reach(point)
		for range 10 {
			s.done()
			s.put(cell{0, 1, 256})
		}
		for i, size := range s.sizes {
			want := api.OK
			if size < len(point) {
				want = api.ErrFull
			}
			if _, f := s.encs[i].Done(); f != want {
				t.Errorf("size %d, %x: %d", size, s.told.all(), f)
			}
		}
		s.met()
	}
}

// 7.1: however many carries come, what has no room never fits again, once it isn't all of 255s.
func TestManyCarries(t *testing.T) {
	next := mixed()
	s := newSide(t, 1, 2, 3)
	s.follow("\x80", 2, 6)
	carries := 0
	for range 3000 {
		// The next carry comes where the bytes ahead of low's last four are one more.
		gone := s.told.gone
		ahead := new(big.Int).SetBytes([]byte(s.told.all()[:gone]))
		point := string(ahead.Add(ahead, big.NewInt(1)).FillBytes(make([]byte, gone)))
		if s.told.left(point) < s.told.span {
			carries++
			s.reach(point)
		} else {
			total := 2 + below(next, 300)
			s.put(cell{total/2 + below(next, total-total/2), 1, total})
		}
		s.done()
	}
	if carries < 300 {
		t.Errorf("only %d carries", carries)
	}
}

// 7.1: coders, and decoders, have nothing in common.
func TestApart(t *testing.T) {
	next := mixed()
	one, other := newSide(t, 3, 30), newSide(t, 3, 30)
	for range 10 {
		one.put(someCell(next))
		other.bits(below(next, 1<<13), 13)
		one.done()
		other.done()
	}
	first, second := rang.NewDec("\x12\x34\x56\x78\x9a\xbc"), rang.NewDec("\x12\x34\x56\x78\x9a\xbc")
	first.Bits(24)
	if x, f := second.Bits(24); f != api.OK {
		t.Errorf("Bits = %x, %d", x, f)
	} else if y, _ := rang.NewDec("\x12\x34\x56\x78\x9a\xbc").Bits(24); x != y {
		t.Errorf("Bits = %x, of a decoder alone %x", x, y)
	}
}

// 7.2: places that were worked out apart.
func TestAt(t *testing.T) {
	for _, c := range []struct {
		text        string
		total, want int
	}{
		{"", 1, 0},
		{"", 2, 0},
		{"", 1 << 15, 0},
		{"\x00", 1 << 15, 0},
		{"\x00\x01\xff\xfe", 1 << 15, 0}, // a step is 2^17 less 1
		{"\x00\x01\xff\xff", 1 << 15, 1},
		{"\x00\x02", 1 << 15, 1},
		{"\x01", 256, 1},
		{"\x00\xff\xff\xff", 256, 1},
		{"\x00\xff\xff\xfe", 256, 0},
		{"\x00\xff\xff", 256, 0},
		{"\x7f\xff\xff\xff", 2, 1},
		{"\x7f\xff\xff\xfe", 2, 0},
		{"\x7f\xff\xff", 2, 0},
		{"\x80", 2, 1},
		{"\x80\x00\x00\x00\xff\xff", 2, 1},
		{"\x12\x34\x56\x78", 1, 0},
		{"\x12\x34\x56\x78", 256, 0x12},
		{"\x12\x34\x56\x78", 1 << 15, 0x91a},
		{"\x99\x99\x99\x98", 5, 2},
		{"\x99\x99\x99\x99", 5, 3},
		// The place would not be below the total.
		{"\xff\xff\xff\xfe", 1, 0},
		{"\xff\xff\xff\xff", 1, 0},
		{"\xff\xff\xff\xfe", 2, 1},
		{"\xff\xff\xff\xff", 2, 1},
		{"\xff\xff\xff\xff", 7, 6},
		{"\xff\xff\xff\xff", 256, 255},
		{"\xff\xff\xff\xff\xff", 1 << 15, 1<<15 - 1},
	} {
		d := rang.NewDec(c.text)
		for range 2 {
			if got, f := d.At(c.total); got != c.want || f != api.OK || d.Used() != 0 {
				t.Errorf("%x: At(%d) = %d, %d, want %d, and %d bits are used", c.text, c.total, got, f, c.want, d.Used())
			}
		}
	}
}

// texts answers texts of all lengths from 0 to 12, and some longer ones: of one byte, and mixed.
func texts() []string {
	next := mixed()
	list := []string{"", strings.Repeat("\x00", 5000), strings.Repeat("\xff", 5000)}
	for _, n := range []int{1, 2, 3, 4, 5, 6, 7, 8, 9, 10, 11, 12, 31, 32, 33, 100} {
		for _, b := range []string{"\x00", "\x01", "\x7f", "\x80", "\xff"} {
			list = append(list, strings.Repeat(b, n))
		}
		for range 10 {
			bytes := make([]byte, n)
			for i := range bytes {
				bytes[i] = byte(next() >> 30)
			}
			list = append(list, string(bytes))
		}
	}
	return list
}

// asTold holds a decoder's places and used bits against those that are told.
func asTold(t *testing.T, d *rang.Dec, told *toldDec, next func() uint64) {
	t.Helper()
	if d.Used() != told.used() {
		t.Fatalf("%x: %d bits are used, want %d", told.text, d.Used(), told.used())
	}
	for _, total := range []int{1, 2, 3, 256, 1<<15 - 1, 1 << 15, 1 + below(next, 1<<15)} {
		if got, f := d.At(total); got != told.at(total) || f != api.OK {
			t.Fatalf("%x: At(%d) = %d, %d, want %d, of %x in %x", told.text, total, got, f, told.at(total), told.code, told.span)
		}
	}
}

// 7.2: cells that the place lies in, and any others, with which the code isn't below the range, up to far behind the end.
func TestTake(t *testing.T) {
	next := mixed()
	for _, text := range texts() {
		for style := range 4 {
			d, told := rang.NewDec(text), newToldDec(text)
			asTold(t, d, told, next)
			for range 25 {
				c := someCell(next)
				if style%2 == 0 {
					c = cell{told.at(c.total), 1, c.total}
				}
				if style == 3 {
					c = cell{c.total - 1, 1, c.total}
				}
				told.take(c)
				if f := d.Take(c.start, c.width, c.total); f != api.OK {
					t.Fatalf("%x: Take(%v) = %d", text, c, f)
				}
				asTold(t, d, told, next)
			}
		}
	}
}

// 7.2: a code that grows beyond 32 bits, or below 0, is a rest.
func TestTakeWrapsRound(t *testing.T) {
	for _, c := range []struct {
		text        string
		cells       []cell
		total, want int
	}{
		{"", []cell{{1, 1, 2}}, 1 << 15, 1<<15 - 1},                           // 0x80000001, of 0x7fffffff
		{"", []cell{{1, 1, 2}, {0, 1, 256}}, 1 << 15, 0},                      // 0x00000100, of 0x7fffff00
		{"", []cell{{1, 1, 2}, {0, 1, 1 << 15}, {0, 1, 256}}, 256, 1},         // 0x01000000, of 0xffff0000
		{"", []cell{{255, 1, 256}, {0, 1, 256}}, 1 << 15, 127},                // 0x00ff0000, of 0xffffff00
		{"\x12\x34\x56\x78\x9a", []cell{{0, 1, 256}}, 256, 0x34},              // 0x3456789a, of 0xffffff00
		{"\x12\x34\x56\x78\x9a", []cell{{0, 1, 256}, {0, 1, 256}}, 256, 0x56}, // 0x56789a00
		{"\x12\x34\x56\x78\x9a", []cell{{0, 1, 256}, {0, 1, 1}}, 16, 3},
	} {
		d := rang.NewDec(c.text)
		for _, one := range c.cells {
			d.Take(one.start, one.width, one.total)
		}
		if got, f := d.At(c.total); got != c.want || f != api.OK {
			t.Errorf("%x, %v: At(%d) = %d, %d, want %d", c.text, c.cells, c.total, got, f, c.want)
		}
	}
}

// 7.2: what is no total, no cell and no count of bits is refused, and nothing is changed by it.
func TestDecOfOthers(t *testing.T) {
	_, others := edgeCells()
	next := mixed()
	const text = "\x12\x34\x56\x78\x9a\xbc\xde\xf0\x11\x22\x33\x44\x55\x66\x77\x88"
	d, told := rang.NewDec(text), newToldDec(text)
	for i, c := range others {
		if f := d.Take(c.start, c.width, c.total); f != api.ErrArg {
			t.Fatalf("Take(%v) = %d", c, f)
		}
		if i%500 == 0 {
			asTold(t, d, told, next)
			good := someCell(next)
			d.Take(good.start, good.width, good.total)
			told.take(good)
		}
	}
	asTold(t, d, told, next)
	for _, total := range append(ends(), -3, -256, 1<<15+2, 40000, 65535) {
		place, f := d.At(total)
		if good := total >= 1 && total <= 1<<15; !good && (place != 0 || f != api.ErrArg) {
			t.Errorf("At(%d) = %d, %d", total, place, f)
		}
	}
	for _, n := range append(ends(), 25, 26, 32, 33, 62, 63, 64, 65, -8, -24) {
		if n >= 0 && n <= 24 {
			continue
		}
		if x, f := d.Bits(n); x != 0 || f != api.ErrArg {
			t.Errorf("Bits(%d) = %d, %d", n, x, f)
		}
		asTold(t, d, told, next)
	}
}

// 7.2: a number of any bits, of any text, is taken as its cells are, the lowest bits first.
func TestDecBits(t *testing.T) {
	next := mixed()
	for _, text := range texts() {
		d, told := rang.NewDec(text), newToldDec(text)
		for n := range 25 {
			want, had := 0, 0
			for _, c := range cellsOf(0, n) {
				c.start = told.at(c.total)
				told.take(c)
				want += c.start << had
				had += digits(uint64(c.total)) - 1
			}
			if got, f := d.Bits(n); got != want || f != api.OK {
				t.Fatalf("%x: Bits(%d) = %x, %d, want %x", text, n, got, f, want)
			}
			asTold(t, d, told, next)
		}
	}
}

// 7.2: zero bytes stand behind the end, so that as many of them as one likes change nothing.
func TestZerosBehindTheEnd(t *testing.T) {
	next := mixed()
	for _, text := range texts() {
		short, long := rang.NewDec(strings.TrimRight(text, "\x00")), rang.NewDec(text+strings.Repeat("\x00", 40))
		for range 20 {
			total, n := 1+below(next, 1<<15), below(next, 25)
			a, f := short.At(total)
			b, g := long.At(total)
			if a != b || f != g {
				t.Fatalf("%x: At(%d) = %d, %d; with zeros %d, %d", text, total, a, f, b, g)
			}
			x, f := short.Bits(n)
			y, g := long.Bits(n)
			if x != y || f != g || short.Used() != long.Used() {
				t.Fatalf("%x: Bits(%d) = %d, %d; with zeros %d, %d", text, n, x, f, y, g)
			}
		}
	}
}

// 7.2: a text of many bytes is taken to its end.
func TestLongText(t *testing.T) {
	next := mixed()
	bytes := make([]byte, 200000)
	for i := range bytes {
		bytes[i] = byte(next() >> 30)
	}
	text := string(bytes)
	d, told := rang.NewDec(text), newToldDec(text)
	for told.gone < len(text)+10 {
		c := cell{told.at(1 << 15), 1, 1 << 15}
		if got, _ := d.At(1 << 15); got != c.start {
			t.Fatalf("behind %d bytes the place is %d, want %d", told.gone, got, c.start)
		}
		told.take(c)
		d.Take(c.start, c.width, c.total)
	}
	asTold(t, d, told, next)
	if d.Used() < 8*len(text) {
		t.Errorf("%d bits are used", d.Used())
	}
}

// 7.3: cells and numbers that are put are met again, with as many used bits on both sides all along.
func TestMetAgain(t *testing.T) {
	type one struct {
		cell
		x, n int
		used int
	}
	next := mixed()
	for round := range 400 {
		e, _ := rang.NewEnc(4096)
		list := make([]one, 1+below(next, 1<<(round%10)))
		for i := range list {
			o := &list[i]
			if o.cell = someCell(next); below(next, 2) == 0 {
				o.cell, o.n = cell{}, below(next, 25)
				o.x = []int{0, 1<<o.n - 1, below(next, 1<<o.n)}[below(next, 3)]
				e.Bits(o.x, o.n)
			} else {
				e.Put(o.start, o.width, o.total)
			}
			o.used = e.Used()
		}
		text, f := e.Done()
		if f != api.OK || len(text) != 4096 {
			t.Fatalf("Done has %d bytes, %d", len(text), f)
		}
		d := rang.NewDec(text)
		for i, o := range list {
			if o.total == 0 {
				if x, f := d.Bits(o.n); x != o.x || f != api.OK {
					t.Fatalf("%d: Bits(%d) = %x, %d, want %x", i, o.n, x, f, o.x)
				}
			} else if place, f := d.At(o.total); f != api.OK || place < o.start || place >= o.start+o.width {
				t.Fatalf("%d: At(%d) = %d, %d; it was %v that was put", i, o.total, place, f, o.cell)
			} else {
				d.Take(o.start, o.width, o.total)
			}
			if d.Used() != o.used {
				t.Fatalf("%d: %d bits are used, want %d", i, d.Used(), o.used)
			}
		}
	}
}

// 7.3: each place of a total is met again, at its start, at its end, and in the middle of others.
func TestEachPlaceIsMet(t *testing.T) {
	for _, total := range []int{1, 2, 3, 255, 256, 257, 1000, 1<<15 - 1, 1 << 15} {
		starts := []int{0, 1, 2, total / 3, total / 2, total - 3, total - 2, total - 1}
		slices.Sort(starts)
		for _, start := range slices.Compact(starts) {
			for _, width := range []int{1, 2, total / 2, total - start} {
				c := cell{start, width, total}
				if !c.told() {
					continue
				}
				s := newSide(t, 4, 8, 40)
				for _, other := range []cell{c, {0, 1, 1}, c, {1, 1, 3}, c, {total - 1, 1, total}, c, {0, 1, total}, c} {
					s.put(other)
					s.done()
				}
				s.met()
			}
		}
	}
}
