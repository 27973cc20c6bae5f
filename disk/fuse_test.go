package disk_test

import (
	"math"
	"testing"

	"spool/api"
	"spool/disk"
)

// TestFuse tries fuses, spent by writes, by syncs, and by both (16.2).
func TestFuse(t *testing.T) {
	const most = 3000
	ways := map[string]func(d *disk.Disk, x int) api.Errno{
		"writes": func(d *disk.Disk, x int) api.Errno { return d.Write(x%3, filled(x)) },
		"syncs":  func(d *disk.Disk, x int) api.Errno { return d.Sync() },
		"writes ahead of syncs": func(d *disk.Disk, x int) api.Errno {
			if x%2 == 0 {
				return d.Write(x%3, filled(x))
			}
			return d.Sync()
		},
		"syncs ahead of writes": func(d *disk.Disk, x int) api.Errno {
			if x%2 == 1 {
				return d.Write(x%3, filled(x))
			}
			return d.Sync()
		},
	}
	for _, n := range []int{math.MinInt, math.MinInt + 1, -1 << 32, -2, -1, 0, 1, 2, 3, 10, 255, 256, 1000, 1 << 32, math.MaxInt - 1, math.MaxInt} {
		want := n
		if n < 0 || n > most {
			want = most
		}
		for name, way := range ways {
			d := fresh(t, 3)
			d.Fuse(n)
			well := 0
			for well < most && way(d, well) == api.OK {
				well++
			}
			if well != want {
				t.Errorf("Fuse(%d): %d %s went well", n, well, name)
			}
			if want == most {
				continue
			}
			for range 3 {
				if d.Write(0, filled(1)) != api.ErrDisk || d.Sync() != api.ErrDisk {
					t.Errorf("Fuse(%d): burnt, and not refused behind %s", n, name)
				}
			}
		}
	}
}

// TestUnspent holds that a fuse isn't spent by reads, by what is refused for another reason, by what only tells, or by the power's going (16.2).
func TestUnspent(t *testing.T) {
	for name, act := range map[string]func(d *disk.Disk){
		"nothing":            func(d *disk.Disk) {},
		"Read":               func(d *disk.Disk) { d.Read(0) },
		"Read of no sector":  func(d *disk.Disk) { d.Read(2) },
		"Write of no sector": func(d *disk.Disk) { d.Write(2, filled(1)); d.Write(-1, filled(1)) },
		"Crash":              func(d *disk.Disk) { d.Crash(nil); d.Up() },
		"Crash, some kept":   func(d *disk.Disk) { d.Crash([]bool{true, true}); d.Up() },
		"Crash, and refused": func(d *disk.Disk) { d.Crash(nil); d.Write(0, filled(1)); d.Sync(); d.Read(0); d.Up() },
		"Crash and Up again": func(d *disk.Disk) { d.Crash(nil); d.Crash(nil); d.Up(); d.Up() },
		"Up":                 func(d *disk.Disk) { d.Up() },
		"Size, Loose, Reads": func(d *disk.Disk) { d.Size(); d.Loose(); d.Reads(0) },
	} {
		for _, n := range []int{0, 1, 2, 5} {
			d := fresh(t, 2)
			write(t, d, 0, 1)
			write(t, d, 1, 1)
			d.Fuse(n)
			for range 4 {
				act(d)
			}
			if left := lefts(d); left != n {
				t.Errorf("Fuse(%d): %d went well behind %s", n, left, name)
			}
		}
	}
}

// TestFuseAnew tries a fuse that is set where one was: it counts from then on, whatever the other had left (16.2).
func TestFuseAnew(t *testing.T) {
	for _, first := range []int{-1, 0, 1, 2, 3, 9} {
		for _, second := range []int{math.MinInt, -1, 0, 1, 2, 5} {
			for _, behind := range []string{"spent", "burnt", "down", "down and up"} {
				d := fresh(t, 2)
				d.Fuse(first)
				d.Write(0, filled(1))
				d.Sync()
				switch behind {
				case "burnt":
					lefts(d)
				case "down":
					d.Crash(nil)
				case "down and up":
					d.Crash(nil)
					d.Up()
				}
				d.Fuse(second)
				d.Up()
				want := second
				if second < 0 {
					want = 50
				}
				if left := lefts(d); left != want {
					t.Errorf("Fuse(%d), %s, Fuse(%d): %d went well", first, behind, second, left)
				}
			}
		}
	}
}

// TestBurntReads holds that a fuse that has burnt lets read what was written ahead (16.2).
func TestBurntReads(t *testing.T) {
	d := fresh(t, 3)
	write(t, d, 0, 1)
	makeSure(t, d)
	d.Fuse(1)
	write(t, d, 1, 2)
	if d.Write(1, filled(3)) != api.ErrDisk || d.Write(0, filled(3)) != api.ErrDisk || d.Sync() != api.ErrDisk {
		t.Errorf("not refused")
	}
	reads(t, d, 0, filled(1))
	reads(t, d, 1, filled(2))
	if d.Loose() != 1 {
		t.Errorf("Loose = %d", d.Loose())
	}
	// What wasn't synced isn't sure, and what was refused is not even that.
	d.Crash([]bool{false, true, true})
	d.Up()
	reads(t, d, 0, filled(1))
	reads(t, d, 1, api.Page{})
	if d.Sync() != api.ErrDisk {
		t.Errorf("the fuse was whole again")
	}
}
