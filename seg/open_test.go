package seg_test

import (
	"math"
	"slices"
	"testing"

	"spool/api"
	"spool/disk"
	"spool/page"
	"spool/seg"
)

// refuses holds that a disk is neither scanned nor opened, and that nothing is answered beside the error.
func refuses(t *testing.T, d *disk.Disk, want api.Errno) {
	t.Helper()
	if recs, next, greatest, err := seg.Scan(d); len(recs) != 0 || next != 0 || greatest != 0 || err != want {
		t.Errorf("Scan of %d sectors = %v, %d, %d, %d, want %d", d.Size(), recs, next, greatest, err, want)
	}
	if l, recs, err := seg.Open(d); l != nil || len(recs) != 0 || err != want {
		t.Errorf("Open of %d sectors = %v, %v, %d, want %d", d.Size(), l, recs, err, want)
	}
}

// TestExample is the chapter's example: a new disk (19.1).
func TestExample(t *testing.T) {
	recs, next, greatest, err := seg.Scan(fresh(t, 32))
	if len(recs) != 0 || next != 0 || greatest != 0 || err != api.OK {
		t.Errorf("Scan = %v, %d, %d, %d", recs, next, greatest, err)
	}
}

// TestNewDisks tries new disks of all sizes that a log may have (19.1).
func TestNewDisks(t *testing.T) {
	for _, size := range []int{32, 33, 47, 48, 49, 63, 64, 100, 1008, 1023, 1024} {
		d := fresh(t, size)
		scans(t, d, sight{})
		opensAs(t, d, sight{})
		scans(t, d, sight{rec(1, "z"), 2, 1})
	}
}

// TestTooSmall tries no disk, and disks of fewer than two segments, also such as are down, or have pages: none of them is read (19.1).
func TestTooSmall(t *testing.T) {
	refuses(t, nil, api.ErrArg)
	// There is no disk of 0 sectors but a nil one.
	none, _ := disk.New(0)
	refuses(t, none, api.ErrArg)
	for size := 1; size < 32; size++ {
		d := fresh(t, size)
		refuses(t, d, api.ErrArg)
		refuses(t, laid(t, size, upTo(size)), api.ErrArg)
		for i := range size {
			if d.Reads(i) != 0 {
				t.Errorf("of %d sectors: Reads(%d) = %d", size, i, d.Reads(i))
			}
		}
		d.Crash(nil)
		refuses(t, d, api.ErrArg)
	}
}

// TestDown tries disks that are down (19.1).
func TestDown(t *testing.T) {
	for _, size := range []int{32, 33, 47, 48, 1024} {
		d := fresh(t, size)
		d.Crash(nil)
		refuses(t, d, api.ErrDown)
		d = laid(t, size, upTo(32))
		d.Sync()
		d.Crash(nil)
		refuses(t, d, api.ErrDown)
		d.Up()
		scans(t, d, sight{singles(1, 31), 32, 1})
	}
}

// readsOf answers how many times each sector of a disk was read.
func readsOf(d *disk.Disk) []int {
	list := make([]int, d.Size())
	for i := range list {
		list[i] = d.Reads(i)
	}
	return list
}

// TestReads holds that a scan reads each sector once, and that so does what opens a log, and nothing else (19.1, 19.3).
func TestReads(t *testing.T) {
	for _, size := range []int{32, 33, 47, 48, 64, 1023, 1024} {
		for _, list := range [][]sector{
			nil, upTo(1), upTo(9), upTo(32), upTo(size), row(upTo(14), first(1, "a"), piece(1, "b")), row(upTo(15), first(1, "a"), heads(1)),
			row(nil, both(1, "a")), row(upTo(31), single(math.MaxUint32)), long(1000),
		} {
			d := laid(t, size, list[:min(len(list), size)])
			for times := 1; times <= 4; times++ {
				if times%2 == 1 {
					seg.Scan(d)
				} else {
					seg.Open(d)
				}
				if got := readsOf(d); !slices.Equal(got, slices.Repeat([]int{times}, size)) {
					t.Fatalf("of %d sectors, %d of them written, scanned %d times: reads %v", size, len(list), times, got)
				}
			}
		}
	}
}

// TestWritesNothing holds that neither a scan nor what opens a log writes, or syncs (19.1).
func TestWritesNothing(t *testing.T) {
	for _, list := range [][]sector{nil, upTo(20), row(upTo(15), first(1, "a"), heads(1)), row(nil, both(math.MaxUint32, "a"))} {
		d := laid(t, 48, list)
		was := sectorsOf(t, d)
		d.Fuse(1)
		for range 3 {
			seg.Scan(d)
			seg.Open(d)
		}
		if !slices.Equal(sectorsOf(t, d), was) || d.Loose() != len(list) {
			t.Errorf("of %d sectors written: something was written, or synced", len(list))
		}
		if d.Sync() != api.OK {
			t.Errorf("of %d sectors written: the fuse was spent", len(list))
		}
	}
}

// TestOpenTwice holds that to open twice is as to open once: the records, the next page, and all that is written then (19.4).
func TestOpenTwice(t *testing.T) {
	for _, list := range [][]sector{
		nil, upTo(1), upTo(20), row(upTo(15), first(1, "a"), heads(1)), row(nil, both(7, "a")), upTo(32),
		row(upTo(5), single(math.MaxUint32-1)), row(upTo(5), single(math.MaxUint32)),
	} {
		once, twice := laid(t, 47, list), laid(t, 47, list)
		l, recs := open(t, once)
		for range 3 {
			open(t, twice)
		}
		m, others := open(t, twice)
		if !slices.Equal(recs, others) || l.Next() != m.Next() || l.Frozen() != m.Frozen() {
			t.Errorf("opened once: %v, %d; opened twice: %v, %d", recs, l.Next(), others, m.Next())
		}
		for _, s := range []string{"x", placed(100, 1), placed(400, 2), placed(900, 3)} {
			at, err := l.Append(s)
			if other, otherErr := m.Append(s); other != at || otherErr != err {
				t.Errorf("opened once: %d, %d; opened twice: %d, %d", at, err, other, otherErr)
			}
		}
		if !slices.Equal(sectorsOf(t, once), sectorsOf(t, twice)) {
			t.Errorf("of %d sectors written: other pages were written", len(list))
		}
	}
}

// TestNewMemory holds that records that were handed out share no memory with others, spare room included (19.1).
func TestNewMemory(t *testing.T) {
	d := laid(t, 48, upTo(30))
	recs, _, _, _ := seg.Scan(d)
	l, others := open(t, d)
	for _, list := range [][]seg.Rec{recs, others} {
		all := list[:cap(list)]
		for i := range all {
			all[i] = seg.Rec{At: -1, Text: "changed"}
		}
	}
	third, _, _, _ := seg.Scan(d)
	add(t, l, "anew")
	scans(t, d, sight{append(singles(1, 29), seg.Rec{At: 30, Text: "anew"}), 31, 2})
	if !slices.Equal(third, singles(1, 29)) {
		t.Errorf("scanned, and changed: %v", third)
	}
}

// TestGreatestEpoch holds that a log whose greatest epoch is 2^32 - 1 is frozen, wherever it lies, and one beside it isn't (19.1, 19.2).
func TestGreatestEpoch(t *testing.T) {
	for _, at := range []int{2, 5, 16, 31, 32, 46} {
		d := laid(t, 47, upTo(2))
		d.Write(at, single(math.MaxUint32)(at))
		was := sectorsOf(t, d)
		l, recs := open(t, d)
		next := 2
		want := singles(1, 1)
		if at == 2 {
			next, want = 3, singles(1, 2)
		}
		loose := d.Loose()
		d.Fuse(3)
		if !slices.Equal(recs, want) || l.Next() != next {
			t.Errorf("at %d: Open = %v, then Next = %d", at, recs, l.Next())
		}
		staysFrozen(t, l, next)
		if !slices.Equal(sectorsOf(t, d), was) || d.Loose() != loose {
			t.Errorf("at %d: a frozen log wrote, or synced", at)
		}
		for range 3 {
			if d.Sync() != api.OK {
				t.Errorf("at %d: a frozen log spent the fuse", at)
			}
		}
	}
	// The epoch behind the greatest but one is the last one.
	d := laid(t, 32, row(nil, heads(math.MaxUint32-1), both(math.MaxUint32-1, "a")))
	l, _ := open(t, d)
	add(t, l, "b")
	makeSure(t, l)
	add(t, l, placed(1000, 1))
	if l.Frozen() || l.Next() != 25 {
		t.Errorf("Frozen = %v, Next = %d", l.Frozen(), l.Next())
	}
	recs := []seg.Rec{{At: 1, Text: "a"}, {At: 2, Text: "b"}, {At: 3, Text: placed(1000, 1)}}
	scans(t, d, sight{recs, 25, math.MaxUint32})
	m, _ := open(t, d)
	staysFrozen(t, m, 25)
}

// staysFrozen holds what a frozen log answers: nothing is done, again and again.
func staysFrozen(t *testing.T, l *seg.Log, next int) {
	t.Helper()
	for range 2 {
		for _, c := range []struct {
			size int
			want api.Errno
		}{{0, api.ErrSize}, {1, api.ErrState}, {49, api.ErrState}, {4096, api.ErrState}, {4097, api.ErrSize}, {1 << 16, api.ErrSize}} {
			if at, err := l.Append(placed(c.size, 1)); at != 0 || err != c.want {
				t.Errorf("frozen: Append of %d bytes = %d, %d, want %d", c.size, at, err, c.want)
			}
		}
		if err := l.Sync(); err != api.ErrState {
			t.Errorf("frozen: Sync = %d", err)
		}
		if !l.Frozen() || l.Next() != next {
			t.Errorf("frozen: Frozen = %v, Next = %d, want %d", l.Frozen(), l.Next(), next)
		}
	}
}

// TestNil tries a log that is nil (19.2).
func TestNil(t *testing.T) {
	var l *seg.Log
	for _, c := range []struct {
		size int
		want api.Errno
	}{{0, api.ErrSize}, {1, api.ErrState}, {4096, api.ErrState}, {4097, api.ErrSize}, {1 << 20, api.ErrSize}} {
		if at, err := l.Append(placed(c.size, 1)); at != 0 || err != c.want {
			t.Errorf("Append of %d bytes = %d, %d, want %d", c.size, at, err, c.want)
		}
	}
	if l.Sync() != api.ErrState || l.Next() != 0 || l.Frozen() {
		t.Errorf("Sync = %d, Next = %d, Frozen = %v", l.Sync(), l.Next(), l.Frozen())
	}
}

// TestOwnDisk holds that two logs on two disks have nothing in common (19.2).
func TestOwnDisk(t *testing.T) {
	one, other := fresh(t, 32), fresh(t, 48)
	l, _ := open(t, one)
	m, _ := open(t, other)
	add(t, l, "a", "b")
	add(t, m, placed(800, 1))
	add(t, l, "c")
	one.Fuse(0)
	l.Append("d")
	add(t, m, "e")
	makeSure(t, m)
	if !l.Frozen() || m.Frozen() || l.Next() != 4 || m.Next() != 20 || one.Loose() != 4 || other.Loose() != 0 {
		t.Errorf("Next = %d and %d", l.Next(), m.Next())
	}
	b, _ := one.Read(2)
	if p, _ := page.Read(b); p.Data != "b" {
		t.Errorf("at 2: %+v", p)
	}
}
