package disk_test

import (
	"slices"
	"testing"

	"spool/api"
	"spool/disk"
)

// A device is what a disk can do, the program's or the one told here.
type device interface {
	Size() int
	Read(i int) (api.Page, api.Errno)
	Write(i int, p api.Page) api.Errno
	Sync() api.Errno
	Crash(keep []bool)
	Up()
	Fuse(n int)
	Loose() int
	Reads(i int) int
}

// toldWrite is a write that isn't lost.
type toldWrite struct {
	sector int
	page   api.Page
	sure   bool
}

// told is a disk, word by word as the chapter tells it: all that was written to it and isn't lost stands in one row, and so do the sectors that were read.
type told struct {
	sectors int
	row     []toldWrite
	read    []int
	down    bool
	fused   bool
	left    int // writes and syncs that go well yet, if there is a fuse
}

func (d *told) Size() int { return d.sectors }

func (d *told) isSector(i int) bool { return i >= 0 && i < d.sectors }

func (d *told) burnt() bool { return d.fused && d.left == 0 }

func (d *told) wentWell() {
	if d.fused {
		d.left--
	}
}

func (d *told) Read(i int) (api.Page, api.Errno) {
	if d.down {
		return api.Page{}, api.ErrDown
	}
	if !d.isSector(i) {
		return api.Page{}, api.ErrArg
	}
	d.read = append(d.read, i)
	var p api.Page
	for _, w := range d.row {
		if w.sector == i {
			p = w.page
		}
	}
	return p, api.OK
}

func (d *told) Write(i int, p api.Page) api.Errno {
	if d.down {
		return api.ErrDown
	}
	if !d.isSector(i) {
		return api.ErrArg
	}
	if d.burnt() {
		return api.ErrDisk
	}
	d.wentWell()
	d.row = append(d.row, toldWrite{sector: i, page: p})
	return api.OK
}

func (d *told) Sync() api.Errno {
	if d.down {
		return api.ErrDown
	}
	if d.burnt() {
		return api.ErrDisk
	}
	d.wentWell()
	for i := range d.row {
		d.row[i].sure = true
	}
	return api.OK
}

func (d *told) Crash(keep []bool) {
	var left []toldWrite
	unsure := 0
	for _, w := range d.row {
		if !w.sure {
			w.sure = unsure < len(keep) && keep[unsure]
			unsure++
		}
		if w.sure {
			left = append(left, w)
		}
	}
	d.row, d.down = left, true
}

func (d *told) Up() { d.down = false }

func (d *told) Fuse(n int) { d.fused, d.left = n >= 0, max(n, 0) }

func (d *told) Loose() int {
	n := 0
	for _, w := range d.row {
		if !w.sure {
			n++
		}
	}
	return n
}

func (d *told) Reads(i int) int {
	n := 0
	for _, was := range d.read {
		if was == i {
			n++
		}
	}
	return n
}

// filled answers a page each byte of which hangs on x, and on where it stands.
func filled(x int) api.Page {
	var p api.Page
	for i := range p {
		p[i] = byte(x*7 + x/256*3 + i*(1+x%5) + 1)
	}
	p[0], p[1] = byte(x), byte(x/256)
	return p
}

// mixed answers a row of numbers without an order to be seen, the same one each time.
func mixed() func(n int) int {
	x := uint64(88172645463325252)
	return func(n int) int {
		x ^= x << 13
		x ^= x >> 7
		x ^= x << 17
		return int(x >> 20 % uint64(n))
	}
}

// A step is something done to a device, at a time that what is written tells; it answers what it was answered.
type step struct {
	name string
	do   func(d device, time int) api.Errno
}

func written(i int) step {
	return step{"Write", func(d device, time int) api.Errno { return d.Write(i, filled(time)) }}
}

func synced() step {
	return step{"Sync", func(d device, time int) api.Errno { return d.Sync() }}
}

func crashed(keep ...bool) step {
	return step{"Crash", func(d device, time int) api.Errno { d.Crash(keep); return api.OK }}
}

func upped() step {
	return step{"Up", func(d device, time int) api.Errno { d.Up(); return api.OK }}
}

func fused(n int) step {
	return step{"Fuse", func(d device, time int) api.Errno { d.Fuse(n); return api.OK }}
}

func readAt(i int) step {
	return step{"Read", func(d device, time int) api.Errno { _, err := d.Read(i); return err }}
}

// names answers what steps are called.
func names(steps []step) []string {
	var list []string
	for _, s := range steps {
		list = append(list, s.name)
	}
	return list
}

// A sight is what is seen of a device at a glance.
type sight struct {
	size, loose int
	reads       []int
	pages       []api.Page
	errs        []api.Errno
}

func (s sight) equal(other sight) bool {
	return s.size == other.size && s.loose == other.loose && slices.Equal(s.reads, other.reads) &&
		slices.Equal(s.pages, other.pages) && slices.Equal(s.errs, other.errs)
}

// look answers what is seen of a device, in all of its sectors and in those next to them.
func look(d device) sight {
	s := sight{size: d.Size(), loose: d.Loose()}
	for i := -1; i <= d.Size(); i++ {
		s.reads = append(s.reads, d.Reads(i))
		p, err := d.Read(i)
		s.pages, s.errs = append(s.pages, p), append(s.errs, err)
	}
	return s
}

// lefts answers how many more syncs go well, 50 at most.
func lefts(d device) int {
	n := 0
	for n < 50 && d.Sync() == api.OK {
		n++
	}
	return n
}

// through answers all that is seen of a device, as it is, up, when the power went and some writes were kept, and when it is up once more; and what its fuse has left.
func through(d device, keep []bool) ([]sight, int) {
	list := []sight{look(d)}
	d.Up()
	list = append(list, look(d))
	d.Crash(keep)
	list = append(list, look(d))
	d.Up()
	list = append(list, look(d))
	return list, lefts(d)
}

// alike tells whether all that is seen of two devices is one.
func alike(a, b device, keep []bool) bool {
	seen, left := through(a, keep)
	others, otherLeft := through(b, keep)
	return slices.EqualFunc(seen, others, sight.equal) && left == otherLeft
}

// TestRows tries all rows of a few steps on a disk of two sectors (16.1 to 16.3).
func TestRows(t *testing.T) {
	steps := []step{
		written(0), written(1), written(2), readAt(0), readAt(-1), synced(), upped(),
		crashed(), crashed(true), crashed(false, true), crashed(true, false, true, true),
		fused(-1), fused(0), fused(1), fused(2),
	}
	for length := range 5 {
		rows := 1
		for range length {
			rows *= len(steps)
		}
		for row := range rows {
			var done []step
			for rest := row; len(done) < length; rest /= len(steps) {
				done = append(done, steps[rest%len(steps)])
			}
			tryRow(t, done)
			if t.Failed() {
				return
			}
		}
	}
}

// tryRow takes the steps on a disk of two sectors, and on a told one.
func tryRow(t *testing.T, steps []step) {
	t.Helper()
	d, _ := disk.New(2)
	other := &told{sectors: 2}
	for time, s := range steps {
		if got, want := s.do(d, time+1), s.do(other, time+1); got != want {
			t.Errorf("%v: step %d: %d, want %d", names(steps), time, got, want)
		}
		if got, want := d.Loose(), other.Loose(); got != want {
			t.Errorf("%v: step %d: Loose = %d, want %d", names(steps), time, got, want)
		}
	}
	if !alike(d, other, []bool{false, true, false, true}) {
		t.Errorf("%v: it is another disk than told", names(steps))
	}
}

// someKeep answers a list of up to n and three more, of which none, some or all are kept.
func someKeep(next func(int) int, n int) []bool {
	if next(8) == 0 {
		return nil
	}
	keep := make([]bool, next(n+4))
	often := next(4)
	for i := range keep {
		keep[i] = next(3) < often
	}
	return keep
}

// someStep answers a step on a disk of so many sectors, with that many loose writes: mostly writes.
func someStep(next func(int) int, size, loose int) step {
	switch next(24) {
	case 0:
		return synced()
	case 1:
		if next(4) == 0 {
			return crashed(someKeep(next, loose)...)
		}
		return synced()
	case 2, 3:
		return upped()
	case 4:
		return fused([]int{-1, 0, 1, 2, 30, 1 << 40, -1 << 40}[next(7)])
	case 5:
		return fused(-1)
	case 6, 7, 8, 9:
		return readAt(next(size+2) - 1)
	case 10, 11:
		// One sector again and again.
		return written(size / 2)
	}
	return written(next(size+2) - 1)
}

// TestWalks takes mixed steps on disks of several sizes (16.1 to 16.3).
func TestWalks(t *testing.T) {
	next := mixed()
	for _, size := range []int{1, 2, 3, 7, 16, 64, 1024} {
		d, _ := disk.New(size)
		other := &told{sectors: size}
		for time := range 4000 {
			s := someStep(next, size, other.Loose())
			if got, want := s.do(d, time), s.do(other, time); got != want {
				t.Fatalf("size %d: step %d, %s: %d, want %d", size, time, s.name, got, want)
			}
			if got, want := d.Loose(), other.Loose(); got != want {
				t.Fatalf("size %d: step %d, %s: Loose = %d, want %d", size, time, s.name, got, want)
			}
			i := next(size+2) - 1
			got, err := d.Read(i)
			if want, other := other.Read(i); got != want || err != other {
				t.Fatalf("size %d: step %d, %s: Read(%d) = %v, %d, want %v, %d", size, time, s.name, i, got, err, want, other)
			}
		}
		if !alike(d, other, someKeep(next, other.Loose())) {
			t.Errorf("size %d: it is another disk than told", size)
		}
	}
}
