package disk_test

import (
	"slices"
	"testing"

	"spool/api"
	"spool/disk"
)

// row answers a disk of five sectors with writes that are sure, and such as aren't.
func row(t *testing.T, sure, unsure []int) *disk.Disk {
	t.Helper()
	d := fresh(t, 5)
	for x, i := range sure {
		write(t, d, i, x+100)
	}
	makeSure(t, d)
	for x, i := range unsure {
		write(t, d, i, x+200)
	}
	return d
}

// isKept tells whether the i-th is kept.
func isKept(keep []bool, i int) bool {
	return i < len(keep) && keep[i]
}

// holds holds a row's sectors against what was sure, and what was kept of the rest.
func holds(t *testing.T, d *disk.Disk, sure, unsure []int, keep []bool) {
	t.Helper()
	var want [5]api.Page
	for x, i := range sure {
		want[i] = filled(x + 100)
	}
	for x, i := range unsure {
		if isKept(keep, x) {
			want[i] = filled(x + 200)
		}
	}
	for i, p := range want {
		if got, err := d.Read(i); got != p || err != api.OK {
			t.Errorf("of %v sure and %v not, kept %v: Read(%d) = %v, %d, want %v", sure, unsure, keep, i, got, err, p)
		}
	}
}

// TestSynced tries all ways of keeping some of the writes that aren't sure: what was synced is read, unless what is kept was written there later (16.3, 16.4).
func TestSynced(t *testing.T) {
	for _, c := range []struct{ sure, unsure []int }{
		{nil, nil},
		{[]int{0, 1, 2, 3, 4}, nil},
		{nil, []int{4, 2, 0}},
		{[]int{0, 1, 2, 3, 4}, []int{0, 1, 2, 3, 4}},
		{[]int{0, 1, 2, 3, 4}, []int{4, 3, 2, 1, 0, 4, 3, 2}},
		{[]int{2, 2, 2, 0}, []int{2, 2, 2, 2, 2}},
		{[]int{4, 0, 4}, []int{1, 4, 1, 0, 1, 4, 4, 3, 1}},
		{[]int{3}, []int{0, 3, 3, 0, 2, 0, 3, 2, 2, 0}},
	} {
		n := len(c.unsure)
		for ways := range 1 << n {
			keep := make([]bool, n)
			for i := range keep {
				keep[i] = ways>>i&1 == 1
			}
			d := row(t, c.sure, c.unsure)
			d.Crash(keep)
			d.Up()
			holds(t, d, c.sure, c.unsure, keep)
			// Then it is sure, whatever comes.
			d.Crash(nil)
			d.Up()
			holds(t, d, c.sure, c.unsure, keep)
		}
	}
}

// TestKeep tries lists of all lengths, shorter and longer than there are writes (16.3).
func TestKeep(t *testing.T) {
	sure, unsure := []int{0, 1, 2, 3}, []int{3, 1, 1, 4, 0, 1}
	lists := [][]bool{
		nil, {}, {true}, {false, true}, {false, false, true, true},
		{true, false, false, false, false, true, true}, times(100, true), times(100, false), append(times(6, false), times(2000, true)...),
	}
	for n := range 10 {
		lists = append(lists, times(n, true), times(n, false))
		single := times(n+1, false)
		single[n] = true
		lists = append(lists, single)
	}
	for _, keep := range lists {
		d := row(t, sure, unsure)
		d.Crash(keep)
		d.Up()
		holds(t, d, sure, unsure, keep)
	}
}

// TestKeepOrder holds that of the writes of one sector the last one that is kept is read, wherever it stands (16.3).
func TestKeepOrder(t *testing.T) {
	for _, c := range []struct {
		keep []bool
		want int
	}{
		{[]bool{true, false, false, false}, 1}, {[]bool{false, true, false, false}, 2}, {[]bool{false, false, true, false}, 3},
		{[]bool{false, false, false, true}, 4}, {[]bool{true, true, false, false}, 2}, {[]bool{true, false, true, false}, 3},
		{[]bool{true, true, true}, 3}, {[]bool{true, true, true, true}, 4}, {[]bool{true, false, false, true}, 4}, {nil, 9},
	} {
		d := fresh(t, 1)
		write(t, d, 0, 9)
		makeSure(t, d)
		for x := range 4 {
			write(t, d, 0, x+1)
		}
		d.Crash(c.keep)
		d.Up()
		reads(t, d, 0, filled(c.want))
	}
}

// TestZeros holds that a page of 0s is kept, or lost, as any other (16.3).
func TestZeros(t *testing.T) {
	for _, keep := range []bool{false, true} {
		d := fresh(t, 2)
		write(t, d, 1, 7)
		makeSure(t, d)
		if err := d.Write(1, api.Page{}); err != api.OK || d.Loose() != 1 {
			t.Fatalf("Write = %d, Loose = %d", err, d.Loose())
		}
		d.Crash([]bool{keep})
		d.Up()
		want := filled(7)
		if keep {
			want = api.Page{}
		}
		reads(t, d, 1, want)
	}
}

// TestManyKept tries far more writes than there are sectors, kept without an order to be seen (16.4).
func TestManyKept(t *testing.T) {
	next := mixed()
	for _, n := range []int{256, 257, 1025, 5000, 70000} {
		d := fresh(t, 1024)
		want := make([]api.Page, 1024)
		for i := range want {
			write(t, d, i, i)
			want[i] = filled(i)
		}
		makeSure(t, d)
		keep := make([]bool, n)
		for x := range keep {
			i := next(1024)
			write(t, d, i, x)
			keep[x] = next(3) == 0
			if keep[x] {
				want[i] = filled(x)
			}
		}
		d.Crash(keep)
		d.Up()
		for i, p := range want {
			reads(t, d, i, p)
		}
	}
}

// TestManySynced makes far more writes sure than there are sectors (16.4).
func TestManySynced(t *testing.T) {
	next := mixed()
	for _, n := range []int{256, 257, 1025, 5000, 70000} {
		d := fresh(t, 1024)
		want := make([]api.Page, 1024)
		for x := range n {
			i := next(1024)
			write(t, d, i, x)
			want[i] = filled(x)
		}
		makeSure(t, d)
		d.Crash(nil)
		d.Up()
		for i, p := range want {
			reads(t, d, i, p)
		}
	}
}

// TestDown holds that behind the power's going nothing is left that isn't sure, and all is refused until it is up (16.3).
func TestDown(t *testing.T) {
	for _, keep := range [][]bool{nil, {}, {true}, {false, true}, times(9, true)} {
		sure, unsure := []int{0, 1, 2}, []int{2, 1, 3}
		d := row(t, sure, unsure)
		d.Crash(keep)
		for range 3 {
			if d.Loose() != 0 {
				t.Errorf("kept %v: Loose = %d", keep, d.Loose())
			}
			for i := range 5 {
				if p, err := d.Read(i); p != (api.Page{}) || err != api.ErrDown {
					t.Errorf("kept %v: Read(%d) = %v, %d", keep, i, p, err)
				}
				if err := d.Write(i, filled(50)); err != api.ErrDown {
					t.Errorf("kept %v: Write(%d) = %d", keep, i, err)
				}
			}
			if err := d.Sync(); err != api.ErrDown {
				t.Errorf("kept %v: Sync = %d", keep, err)
			}
		}
		d.Up()
		holds(t, d, sure, unsure, keep)
		write(t, d, 4, 60)
		makeSure(t, d)
		reads(t, d, 4, filled(60))
	}
}

// TestDownAgain holds that the power that goes again changes nothing more, up in between or not (16.3).
func TestDownAgain(t *testing.T) {
	sure, unsure := []int{0, 1, 2}, []int{2, 1, 3, 1}
	for _, keep := range [][]bool{nil, {true}, {false, true}, {true, false, true, false}, times(4, true)} {
		for _, again := range [][]bool{nil, {true}, {false, true}, times(4, true), times(9, true)} {
			for _, up := range []bool{false, true} {
				d := row(t, sure, unsure)
				d.Crash(keep)
				for range 3 {
					if up {
						d.Up()
					}
					d.Crash(again)
				}
				if d.Loose() != 0 || d.Sync() != api.ErrDown {
					t.Errorf("it isn't down, or has loose writes: %d", d.Loose())
				}
				d.Up()
				holds(t, d, sure, unsure, keep)
			}
		}
	}
}

// TestUp holds that Up of a disk that is up changes nothing, and that one Up is enough (16.3).
func TestUp(t *testing.T) {
	sure, unsure := []int{0, 1, 2}, []int{2, 1, 3, 1}
	keep := []bool{true, false, true, false}
	d := row(t, sure, unsure)
	d.Fuse(3)
	d.Up()
	d.Up()
	if d.Loose() != 4 {
		t.Errorf("Loose = %d", d.Loose())
	}
	holds(t, d, sure, unsure, times(4, true))
	d.Crash(keep)
	d.Crash(nil)
	d.Up()
	holds(t, d, sure, unsure, keep)
	if left := lefts(d); left != 3 {
		t.Errorf("%d went well", left)
	}
	// What is not sure stays so, however often it is up.
	d = row(t, sure, unsure)
	d.Up()
	d.Crash(nil)
	d.Up()
	holds(t, d, sure, unsure, nil)
}

// TestOwnKeep holds that a list of what is kept isn't changed, nor kept, nor its spare room asked (16.3).
func TestOwnKeep(t *testing.T) {
	sure, unsure := []int{0, 1, 2}, []int{2, 1, 3, 1}
	room := []bool{true, false, true, true, true, true}
	keep := room[:2]
	d := row(t, sure, unsure)
	d.Crash(keep)
	if !slices.Equal(room, []bool{true, false, true, true, true, true}) {
		t.Errorf("it was changed: %v", room)
	}
	room[0], room[1] = false, true
	d.Up()
	holds(t, d, sure, unsure, []bool{true})
}

// TestExample is the chapter's.
func TestExample(t *testing.T) {
	var ones api.Page
	for i := range ones {
		ones[i] = 1
	}
	d := fresh(t, 1)
	if err := d.Write(0, ones); err != api.OK {
		t.Errorf("Write = %d", err)
	}
	d.Crash(nil)
	d.Up()
	reads(t, d, 0, api.Page{})
}
