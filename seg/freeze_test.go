package seg_test

import (
	"slices"
	"testing"

	"spool/api"
	"spool/disk"
	"spool/page"
	"spool/seg"
)

// burns appends a record that the disk refuses behind so many of its pages, and holds what is answered and written: the log is frozen then, and its next page stays.
func burns(t *testing.T, d *disk.Disk, l *seg.Log, list []page.Page, s string, well int) {
	t.Helper()
	was, loose, next := sectorsOf(t, d), d.Loose(), l.Next()
	d.Fuse(well)
	if at, err := l.Append(s); at != 0 || err != api.ErrDisk {
		t.Errorf("Append of %d bytes at %d, %d writes going well = %d, %d", len(s), next, well, at, err)
	}
	holdsPages(t, d, was, list[:well])
	if d.Loose() != loose+well {
		t.Errorf("of %d pages, %d writes going well: %d more are loose", len(list), well, d.Loose()-loose)
	}
	was = sectorsOf(t, d)
	staysFrozen(t, l, next)
	d.Fuse(5)
	staysFrozen(t, l, next)
	if !slices.Equal(sectorsOf(t, d), was) || d.Loose() != loose+well {
		t.Error("a frozen log wrote, or synced")
	}
	for range 5 {
		if d.Sync() != api.OK {
			t.Error("a frozen log spent the fuse")
		}
	}
	d.Fuse(-1)
}

// TestBurns tries a fuse that burns at each single write of a record, at several pages: of that record nothing is scanned, and a log that is opened goes on where it began (19.2, 19.4).
func TestBurns(t *testing.T) {
	for _, next := range []int{0, 1, 2, 13, 14, 15, 16, 17, 30, 31, 32, 33} {
		for _, size := range []int{1, 49, 50, 100, 148, 800} {
			d := laid(t, 64, upTo(next))
			epoch := epochBehind(t, d)
			list := toldPages(epoch, next, placed(size, 1))
			for well := range list {
				d = laid(t, 64, upTo(next))
				l, recs := open(t, d)
				burns(t, d, l, list, placed(size, 1), well)
				behind, greatest := next, epoch-1
				if well > 0 {
					greatest = epoch
					if next%span == 0 {
						behind++ // the head stands in the chain
					}
				}
				scans(t, d, sight{recs, behind, greatest})
				m, others := open(t, d)
				if !slices.Equal(others, recs) || m.Frozen() {
					t.Errorf("Open = %v, Frozen = %v", others, m.Frozen())
				}
				appends(t, d, m, greatest+1, "anew")
				if t.Failed() {
					t.Fatalf("of %d bytes at %d, %d writes going well", size, next, well)
				}
				more := toldPages(greatest+1, behind, "anew")
				at := int(more[len(more)-1].Number)
				scans(t, d, sight{append(recs, seg.Rec{At: at, Text: "anew"}), at + 1, greatest + 1})
			}
		}
	}
}

// TestBurnsBehind tries a fuse that lets a record and a sync go well, and no more (19.2).
func TestBurnsBehind(t *testing.T) {
	for _, size := range []int{1, 50, 735, 736, 2000} {
		n := toldNeed(0, size)
		d := fresh(t, 64)
		l, _ := open(t, d)
		d.Fuse(n + 1)
		list := add(t, l, placed(size, 1))
		makeSure(t, l)
		if at, err := l.Append("a"); at != 0 || err != api.ErrDisk {
			t.Errorf("behind %d bytes: Append = %d, %d", size, at, err)
		}
		staysFrozen(t, l, n)
		scans(t, d, sight{list, n, 1})
	}
}

// TestBurntSync tries a sync that the disk refuses: what was appended is scanned as long as the power stays (19.2, 19.4).
func TestBurntSync(t *testing.T) {
	for _, size := range []int{0, 1, 736} {
		d := fresh(t, 32)
		l, _ := open(t, d)
		sure := add(t, l, "sure")
		makeSure(t, l)
		list := sure
		if size > 0 {
			list = append(list, add(t, l, placed(size, 1))...)
		}
		next, loose := l.Next(), d.Loose()
		d.Fuse(0)
		if err := l.Sync(); err != api.ErrDisk || d.Loose() != loose {
			t.Errorf("Sync = %d", err)
		}
		staysFrozen(t, l, next)
		d.Fuse(-1)
		staysFrozen(t, l, next)
		scans(t, d, sight{list, next, 1})
		d.Crash(nil)
		d.Up()
		staysFrozen(t, l, next)
		scans(t, d, sight{sure, 2, 1})
	}
}

// TestPowerGone tries a log whose disk is down: its error is told, and the log is frozen, also when it is up again (19.2).
func TestPowerGone(t *testing.T) {
	for name, act := range map[string]func(l *seg.Log) (int, api.Errno){
		"Append of a piece":     func(l *seg.Log) (int, api.Errno) { return l.Append("b") },
		"Append of many pieces": func(l *seg.Log) (int, api.Errno) { return l.Append(placed(1000, 1)) },
		"Sync":                  func(l *seg.Log) (int, api.Errno) { return 0, l.Sync() },
	} {
		for _, fuse := range []int{-1, 0, 1} {
			d := fresh(t, 32)
			l, _ := open(t, d)
			list := add(t, l, "a")
			makeSure(t, l)
			d.Fuse(fuse)
			d.Crash(nil)
			if l.Frozen() || l.Next() != 2 {
				t.Errorf("down: Frozen = %v, Next = %d", l.Frozen(), l.Next())
			}
			if at, err := act(l); at != 0 || err != api.ErrDown {
				t.Errorf("down: %s = %d, %d", name, at, err)
			}
			staysFrozen(t, l, 2)
			d.Up()
			d.Fuse(-1)
			staysFrozen(t, l, 2)
			scans(t, d, sight{list, 2, 1})
			m, _ := open(t, d)
			add(t, m, "c")
			makeSure(t, m)
		}
	}
}

// TestSync holds that a sync makes all sure, writes nothing else, and may be done at any time (19.2).
func TestSync(t *testing.T) {
	d := fresh(t, 33)
	l, _ := open(t, d)
	d.Fuse(1)
	makeSure(t, l) // where nothing was appended, it is a sync too
	if err := l.Sync(); err != api.ErrDisk || !l.Frozen() {
		t.Errorf("Sync = %d, Frozen = %v", err, l.Frozen())
	}
	d.Fuse(-1)
	l, _ = open(t, d)
	var list []seg.Rec
	for i, size := range []int{1, 49, 50, 500, 30} {
		list = append(list, add(t, l, placed(size, i))...)
		was, next := sectorsOf(t, d), l.Next()
		for range 2 {
			makeSure(t, l)
			if d.Loose() != 0 || l.Next() != next || l.Frozen() || !slices.Equal(sectorsOf(t, d), was) {
				t.Errorf("synced: Loose = %d, Next = %d, Frozen = %v", d.Loose(), l.Next(), l.Frozen())
			}
		}
		add(t, l, "loose")
		d.Crash(nil)
		d.Up()
		scans(t, d, sight{list, next, uint32(i + 1)})
		l, _ = open(t, d)
	}
}
