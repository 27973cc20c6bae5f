package disk_test

import (
	"math"
	"slices"
	"testing"

	"spool/api"
	"spool/disk"
)

// fresh answers a new disk of so many sectors.
func fresh(t *testing.T, sectors int) *disk.Disk {
	t.Helper()
	d, err := disk.New(sectors)
	if d == nil || err != api.OK {
		t.Fatalf("New(%d) = %v, %d", sectors, d, err)
	}
	return d
}

// write writes a page that x tells, which goes well.
func write(t *testing.T, d *disk.Disk, i, x int) {
	t.Helper()
	if err := d.Write(i, filled(x)); err != api.OK {
		t.Fatalf("Write(%d) = %d", i, err)
	}
}

// makeSure syncs, which goes well.
func makeSure(t *testing.T, d *disk.Disk) {
	t.Helper()
	if err := d.Sync(); err != api.OK {
		t.Fatalf("Sync = %d", err)
	}
}

// reads holds a sector against a page.
func reads(t *testing.T, d *disk.Disk, i int, want api.Page) {
	t.Helper()
	if p, err := d.Read(i); p != want || err != api.OK {
		t.Errorf("Read(%d) = %v, %d, want %v", i, p, err, want)
	}
}

// strangers answers numbers that are no sector of a disk of that size: some of them would be, if they were cut.
func strangers(size int) []int {
	return []int{
		math.MinInt, math.MinInt + 1, -1 << 32, -1 << 16, -1024, -size - 1, -size, -2, -1,
		size, size + 1, 2 * size, 1024, 1025, 1 << 16, 1 << 32, 1<<32 + 1, math.MaxInt - 1, math.MaxInt,
	}
}

// times answers a row of n of x.
func times(n int, x bool) []bool {
	return slices.Repeat([]bool{x}, n)
}

// TestNew tries all sizes and what is none (16.1).
func TestNew(t *testing.T) {
	for _, sectors := range []int{
		math.MinInt, math.MinInt + 1, -1 << 32, -1025, -1024, -1, 0,
		1025, 1026, 2048, 1<<16 + 5, 1<<32 + 5, math.MaxInt - 1, math.MaxInt,
	} {
		if d, err := disk.New(sectors); d != nil || err != api.ErrArg {
			t.Errorf("New(%d) = %v, %d", sectors, d, err)
		}
	}
	for sectors := 1; sectors <= 1024; sectors++ {
		d := fresh(t, sectors)
		if d.Size() != sectors {
			t.Errorf("of %d: Size = %d", sectors, d.Size())
		}
		if err := d.Write(sectors-1, filled(1)); err != api.OK {
			t.Errorf("of %d: Write of the last one = %d", sectors, err)
		}
		if err := d.Write(sectors, filled(1)); err != api.ErrArg {
			t.Errorf("of %d: Write beyond = %d", sectors, err)
		}
	}
}

// TestFresh holds a new disk against what it is at first: up, of 0s, sure, and without a fuse (16.1).
func TestFresh(t *testing.T) {
	for _, sectors := range []int{1, 2, 32, 1023, 1024} {
		d := fresh(t, sectors)
		if d.Loose() != 0 {
			t.Errorf("of %d: Loose = %d", sectors, d.Loose())
		}
		for i := range sectors {
			if d.Reads(i) != 0 {
				t.Errorf("of %d: Reads(%d) = %d", sectors, i, d.Reads(i))
			}
			reads(t, d, i, api.Page{})
		}
		for x := range 5000 {
			write(t, d, x%sectors, x)
			if x%3 == 0 {
				makeSure(t, d)
			}
		}
	}
}

// TestApart holds that two disks have nothing together (16.1).
func TestApart(t *testing.T) {
	a, b := fresh(t, 3), fresh(t, 3)
	write(t, a, 0, 1)
	makeSure(t, a)
	write(t, a, 1, 2)
	reads(t, a, 0, filled(1))
	a.Fuse(0)
	a.Crash(nil)
	if b.Loose() != 0 || b.Reads(0) != 0 {
		t.Errorf("Loose = %d, Reads = %d", b.Loose(), b.Reads(0))
	}
	for i := range 3 {
		reads(t, b, i, api.Page{})
	}
	write(t, b, 2, 3)
	if a.Loose() != 0 {
		t.Errorf("Loose = %d", a.Loose())
	}
}

// TestSize holds that a disk has its size whatever befalls it (16.1).
func TestSize(t *testing.T) {
	d := fresh(t, 5)
	for at, act := range []func(){
		func() {}, func() { write(t, d, 4, 1) }, func() { makeSure(t, d) }, func() { d.Fuse(0) },
		func() { d.Crash(nil) }, func() { d.Crash(nil) }, d.Up, d.Up,
	} {
		act()
		if d.Size() != 5 {
			t.Errorf("act %d: Size = %d", at, d.Size())
		}
	}
}

// TestLastWrite holds that what is read is the sector's last write, sure or not (16.2).
func TestLastWrite(t *testing.T) {
	d := fresh(t, 4)
	want := make([]api.Page, 4)
	for x, i := range []int{0, 3, 0, 1, 0, 0, 3, 1, 1, 0, 3, 3} {
		write(t, d, i, x+1)
		want[i] = filled(x + 1)
		if x == 4 || x == 8 {
			makeSure(t, d)
		}
		for i, p := range want {
			reads(t, d, i, p)
		}
	}
	// A page of 0s is a write as any other.
	for _, p := range []api.Page{{}, filled(9), {}} {
		if err := d.Write(3, p); err != api.OK {
			t.Fatalf("Write = %d", err)
		}
		reads(t, d, 3, p)
	}
	makeSure(t, d)
	reads(t, d, 3, api.Page{})
	write(t, d, 3, 5)
	d.Crash(nil)
	d.Up()
	reads(t, d, 3, api.Page{})
}

// TestSectors tries sectors and what is none (16.2, 16.3).
func TestSectors(t *testing.T) {
	for _, size := range []int{1, 2, 33, 1024} {
		d := fresh(t, size)
		for _, i := range []int{0, size / 2, size - 1} {
			write(t, d, i, i+1)
			reads(t, d, i, filled(i+1))
		}
		loose := d.Loose()
		for _, i := range strangers(size) {
			if p, err := d.Read(i); p != (api.Page{}) || err != api.ErrArg {
				t.Errorf("of %d: Read(%d) = %v, %d", size, i, p, err)
			}
			if err := d.Write(i, filled(99)); err != api.ErrArg {
				t.Errorf("of %d: Write(%d) = %d", size, i, err)
			}
			if n := d.Reads(i); n != 0 {
				t.Errorf("of %d: Reads(%d) = %d", size, i, n)
			}
		}
		if d.Loose() != loose {
			t.Errorf("of %d: Loose = %d, want %d", size, d.Loose(), loose)
		}
		for _, i := range []int{0, size / 2, size - 1} {
			reads(t, d, i, filled(i+1))
		}
	}
}

// TestRefused tries what is refused, and by which error where several apply (16.2).
func TestRefused(t *testing.T) {
	for _, c := range []struct {
		down, burnt      bool
		sector           int
		read, write, all api.Errno
	}{
		{false, false, 1, api.OK, api.OK, api.OK},
		{false, false, 2, api.ErrArg, api.ErrArg, api.OK},
		{false, false, -1, api.ErrArg, api.ErrArg, api.OK},
		{false, true, 1, api.OK, api.ErrDisk, api.ErrDisk},
		{false, true, 2, api.ErrArg, api.ErrArg, api.ErrDisk},
		{false, true, -1, api.ErrArg, api.ErrArg, api.ErrDisk},
		{true, false, 1, api.ErrDown, api.ErrDown, api.ErrDown},
		{true, false, 2, api.ErrDown, api.ErrDown, api.ErrDown},
		{true, false, -1, api.ErrDown, api.ErrDown, api.ErrDown},
		{true, true, 1, api.ErrDown, api.ErrDown, api.ErrDown},
		{true, true, 2, api.ErrDown, api.ErrDown, api.ErrDown},
		{true, true, math.MinInt, api.ErrDown, api.ErrDown, api.ErrDown},
		{true, true, math.MaxInt, api.ErrDown, api.ErrDown, api.ErrDown},
	} {
		d := fresh(t, 2)
		write(t, d, 1, 5)
		makeSure(t, d)
		if c.burnt {
			d.Fuse(0)
		}
		if c.down {
			d.Crash(nil)
		}
		p, err := d.Read(c.sector)
		if err != c.read {
			t.Errorf("%+v: Read = %d", c, err)
		}
		if err != api.OK && p != (api.Page{}) {
			t.Errorf("%+v: Read = %v beside %d", c, p, err)
		}
		if err := d.Write(c.sector, filled(6)); err != c.write {
			t.Errorf("%+v: Write = %d", c, err)
		}
		if err := d.Sync(); err != c.all {
			t.Errorf("%+v: Sync = %d", c, err)
		}
	}
}

// TestNothingChanged holds that what is refused changes nothing: no sector, nothing of what isn't sure, no count of reads, nothing of the fuse (16.2).
func TestNothingChanged(t *testing.T) {
	lived := func(fuse int, down bool) *disk.Disk {
		d := fresh(t, 4)
		write(t, d, 0, 1)
		write(t, d, 1, 2)
		makeSure(t, d)
		for x, i := range []int{1, 2, 2, 3} {
			write(t, d, i, x+10)
		}
		reads(t, d, 2, filled(12))
		d.Fuse(fuse)
		if down {
			d.Crash([]bool{true, true, false, false})
		}
		return d
	}
	refused := map[string]func(d *disk.Disk) []api.Errno{
		"no sector": func(d *disk.Disk) []api.Errno {
			var list []api.Errno
			for _, i := range strangers(4) {
				_, err := d.Read(i)
				list = append(list, err, d.Write(i, filled(77)))
			}
			return list
		},
		"a sector": func(d *disk.Disk) []api.Errno {
			return []api.Errno{d.Write(0, filled(77)), d.Write(3, api.Page{}), d.Sync(), d.Write(2, filled(78)), d.Sync()}
		},
		"a read": func(d *disk.Disk) []api.Errno {
			_, err := d.Read(0)
			_, other := d.Read(2)
			return []api.Errno{err, other}
		},
	}
	for _, c := range []struct {
		name string
		fuse int
		down bool
	}{
		{"no sector", -1, false}, {"no sector", 0, false}, {"no sector", 1, false}, {"no sector", 7, false},
		{"no sector", -1, true}, {"no sector", 0, true}, {"no sector", 1, true}, {"no sector", 7, true},
		{"a sector", 0, false},
		{"a sector", -1, true}, {"a sector", 0, true}, {"a sector", 1, true}, {"a sector", 7, true},
		{"a read", -1, true}, {"a read", 0, true}, {"a read", 7, true},
	} {
		for _, keep := range [][]bool{nil, times(9, true), {true, false, true, false, true}, {false, true, false, true, false}} {
			d := lived(c.fuse, c.down)
			if list := refused[c.name](d); slices.Contains(list, api.OK) {
				t.Errorf("%+v: not refused: %v", c, list)
			}
			if !alike(d, lived(c.fuse, c.down), keep) {
				t.Errorf("%+v: something was changed, as is seen with %v kept", c, keep)
			}
		}
	}
}

// TestLoose counts the writes that aren't sure behind all that can befall them (16.1).
func TestLoose(t *testing.T) {
	d := fresh(t, 3)
	for at, c := range []struct {
		step
		want int
	}{
		{written(0), 1}, {written(0), 2}, {written(2), 3}, {written(3), 3}, {written(-1), 3}, {readAt(0), 3}, {readAt(1), 3},
		{upped(), 3}, {fused(1), 3}, {written(1), 4}, {written(1), 4}, {synced(), 4}, {fused(0), 4}, {written(2), 4}, {synced(), 4},
		{fused(-1), 4}, {synced(), 0}, {synced(), 0}, {written(1), 1}, {crashed(), 0}, {written(1), 0}, {synced(), 0}, {upped(), 0},
		{written(1), 1}, {written(2), 2}, {crashed(true, true), 0}, {upped(), 0}, {fused(1), 0}, {synced(), 0}, {written(0), 0},
		{fused(2), 0}, {written(0), 1}, {synced(), 0}, {synced(), 0}, {fused(-5), 0}, {written(2), 1}, {written(2), 2}, {upped(), 2},
	} {
		c.do(d, at)
		if d.Loose() != c.want {
			t.Errorf("step %d, %s: Loose = %d, want %d", at, c.name, d.Loose(), c.want)
		}
	}
	for n := range 3000 {
		if d.Loose() != n+2 {
			t.Fatalf("Loose = %d, want %d", d.Loose(), n+2)
		}
		write(t, d, n%3, n)
	}
}

// TestSamePage holds that a write of what a sector has already is a write as any other (16.1, 16.2).
func TestSamePage(t *testing.T) {
	d := fresh(t, 2)
	for _, p := range []api.Page{{}, filled(1)} {
		if err := d.Write(0, p); err != api.OK {
			t.Fatalf("Write = %d", err)
		}
		makeSure(t, d)
		d.Fuse(3)
		for n := range 3 {
			if err := d.Write(0, p); err != api.OK || d.Loose() != n+1 {
				t.Errorf("Write = %d, Loose = %d, want %d", err, d.Loose(), n+1)
			}
		}
		if err := d.Write(0, p); err != api.ErrDisk || d.Loose() != 3 {
			t.Errorf("Write = %d, Loose = %d", err, d.Loose())
		}
		d.Fuse(-1)
		write(t, d, 1, 9)
		// The fourth write is the other sector's.
		d.Crash([]bool{false, false, false, true})
		d.Up()
		reads(t, d, 0, p)
		reads(t, d, 1, filled(9))
		if err := d.Write(1, api.Page{}); err != api.OK {
			t.Fatalf("Write = %d", err)
		}
		makeSure(t, d)
	}
}

// TestReads counts reads by sector, those that went well, also across the power's going (16.3).
func TestReads(t *testing.T) {
	d := fresh(t, 4)
	want := []int{0, 0, 0, 0}
	held := func(when string) {
		t.Helper()
		for i, n := range want {
			if d.Reads(i) != n || d.Reads(i) != n {
				t.Errorf("%s: Reads(%d) = %d, want %d", when, i, d.Reads(i), n)
			}
		}
		for _, i := range strangers(4) {
			if d.Reads(i) != 0 {
				t.Errorf("%s: Reads(%d) = %d", when, i, d.Reads(i))
			}
		}
	}
	read := func(list ...int) {
		for _, i := range list {
			d.Read(i)
			want[i]++
		}
	}
	held("at first")
	read(0, 2, 2, 0, 2, 3)
	held("behind reads")
	write(t, d, 1, 1)
	write(t, d, 2, 1)
	held("behind writes")
	read(1, 2)
	held("behind reads of loose writes")
	makeSure(t, d)
	held("behind a sync")
	for _, i := range strangers(4) {
		d.Read(i)
	}
	held("behind refused reads")
	write(t, d, 3, 1)
	d.Crash([]bool{true})
	held("down")
	for i := range 4 {
		d.Read(i)
	}
	held("behind reads when it was down")
	d.Up()
	held("up")
	d.Fuse(0)
	read(0, 1, 3)
	held("behind reads of a disk whose fuse has burnt")
	for range 70000 {
		read(1)
	}
	held("behind many reads")
}

// TestNil tries each call of a nil disk (16.3).
func TestNil(t *testing.T) {
	var d *disk.Disk
	for range 2 {
		for _, i := range append(strangers(4), 0, 1, 1023) {
			if p, err := d.Read(i); p != (api.Page{}) || err != api.ErrArg {
				t.Errorf("Read(%d) = %v, %d", i, p, err)
			}
			if err := d.Write(i, filled(1)); err != api.ErrArg {
				t.Errorf("Write(%d) = %d", i, err)
			}
			if d.Reads(i) != 0 {
				t.Errorf("Reads(%d) = %d", i, d.Reads(i))
			}
			d.Fuse(i)
		}
		if err := d.Sync(); err != api.ErrArg {
			t.Errorf("Sync = %d", err)
		}
		if d.Size() != 0 || d.Loose() != 0 {
			t.Errorf("Size = %d, Loose = %d", d.Size(), d.Loose())
		}
		for _, keep := range [][]bool{nil, {true}, times(9, false)} {
			d.Crash(keep)
		}
		d.Up()
	}
}

// TestOwn holds that pages handed in or out are the disk's own no more (16.2).
func TestOwn(t *testing.T) {
	d := fresh(t, 2)
	p := filled(1)
	d.Write(0, p)
	for i := range p {
		p[i] = 0xee
	}
	reads(t, d, 0, filled(1))
	makeSure(t, d)
	for range 2 {
		out, _ := d.Read(0)
		for i := range out {
			out[i] = 0xdd
		}
		reads(t, d, 0, filled(1))
		write(t, d, 1, 2)
		out, _ = d.Read(1)
		out[0]++
		reads(t, d, 1, filled(2))
	}
}
