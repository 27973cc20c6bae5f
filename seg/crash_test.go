package seg_test

import (
	"slices"
	"testing"

	"spool/api"
	"spool/disk"
	"spool/seg"
)

// keeps answers one of the ways of keeping some of n writes.
func keeps(n, way int) []bool {
	keep := make([]bool, n)
	for i := range keep {
		keep[i] = way>>i&1 == 1
	}
	return keep
}

// A session is records that are appended behind an opening, the first of them synced.
type session struct {
	sure, rest []int // their lengths
}

// runs opens a log and appends a session's records; it answers all that are then there, how many of them are sure, and how many writes each of the others took.
func (s session) runs(t *testing.T, d *disk.Disk, x int) (list []seg.Rec, sure int, writes []int) {
	t.Helper()
	l, list := open(t, d)
	for i, size := range s.sure {
		list = append(list, add(t, l, placed(size, x+i))...)
	}
	if len(s.sure) > 0 {
		makeSure(t, l)
		sure = len(list)
	}
	for i, size := range s.rest {
		was := d.Loose()
		list = append(list, add(t, l, placed(size, x+100+i))...)
		writes = append(writes, d.Loose()-was)
	}
	return list, sure, writes
}

// whole answers how many records, of so many writes each, are there wholly from the first one on.
func whole(writes []int, keep []bool) int {
	at := 0
	for k, n := range writes {
		for i := range n {
			if at+i >= len(keep) || !keep[at+i] {
				return k
			}
		}
		at += n
	}
	return len(writes)
}

// sum answers how many writes there are.
func sum(writes []int) int {
	n := 0
	for _, x := range writes {
		n += x
	}
	return n
}

// sessions answers first sessions: on a new disk, within a segment, and around a segment's begin.
func sessions() []session {
	return []session{
		{nil, []int{1, 50, 1, 99}},
		{[]int{5}, []int{1, 49, 1, 1, 49, 1, 1}},
		{[]int{5}, []int{150, 1, 50, 50}},
		{[]int{600}, []int{50, 1, 60, 1}},           // from 14 on: two pieces, then a head
		{[]int{640}, []int{50, 1, 60, 1}},           // from 15 on: a head between two pieces
		{[]int{700}, []int{50, 1, 60, 1}},           // from 16 on: a head ahead of both
		{[]int{600, 10}, []int{150, 1, 98, 1}},      // from 15 on
		{[]int{1300, 10}, []int{100, 1, 1, 50, 10}}, // from 30 on
		{[]int{1, 50, 4096}, []int{1, 2, 3, 4, 5, 6, 7}},
	}
}

// TestPowerGoes tries all ways of keeping some of the writes that aren't sure: what was synced is scanned, and of the rest a beginning (19.4).
func TestPowerGoes(t *testing.T) {
	for _, s := range sessions() {
		d := fresh(t, 128)
		_, _, writes := s.runs(t, d, 0)
		n := sum(writes)
		for way := range 1 << n {
			d := fresh(t, 128)
			list, sure, _ := s.runs(t, d, 0)
			keep := keeps(n, way)
			d.Crash(keep)
			d.Up()
			recs, _, _, err := seg.Scan(d)
			if want := list[:sure+whole(writes, keep)]; !slices.Equal(recs, want) || err != api.OK {
				t.Fatalf("of %v, kept %v: Scan = %v, %d, want %v", s, keep, recs, err, want)
			}
		}
	}
}

// seconds answers sessions behind the power's going, all loose, that are appended over what was kept.
func seconds() []session {
	return []session{
		{nil, nil},
		{nil, []int{1}},
		{nil, []int{50}},
		{nil, []int{1, 1, 1}},
		{nil, []int{1, 150}},
		{[]int{1}, []int{50, 1}},
		{[]int{100}, []int{1}},
	}
}

// TestOver holds that what is appended behind the power's going is scanned behind what was there, and that pages that were kept behind the chain's end never come back into it, also when the power goes again (19.4).
func TestOver(t *testing.T) {
	for _, s := range sessions()[:8] {
		d := fresh(t, 64)
		_, _, writes := s.runs(t, d, 0)
		n := sum(writes)
		for way := range 1 << n {
			for _, second := range seconds() {
				d := fresh(t, 64)
				list, sure, _ := s.runs(t, d, 0)
				d.Crash(keeps(n, way))
				d.Up()
				over(t, d, list[:sure+whole(writes, keeps(n, way))], second, way)
				if t.Failed() {
					t.Fatalf("of %v, kept %v, then %v", s, keeps(n, way), second)
				}
			}
		}
	}
}

// over appends a session behind records that are there, lets the power go in a way that hangs on the one ahead, and appends once more.
func over(t *testing.T, d *disk.Disk, there []seg.Rec, s session, way int) {
	t.Helper()
	list, _, writes := s.runs(t, d, 1)
	if len(list) < len(there) || !slices.Equal(list[:len(there)], there) {
		t.Errorf("Open = %v, want %v", list, there)
	}
	if recs, _, _, _ := seg.Scan(d); !slices.Equal(recs, list) {
		t.Errorf("Scan = %v, want %v", recs, list)
	}
	keep := keeps(sum(writes), way*5/3)
	d.Crash(keep)
	d.Up()
	left := list[:len(there)+len(s.sure)+whole(writes, keep)]
	if recs, _, _, _ := seg.Scan(d); !slices.Equal(recs, left) {
		t.Errorf("kept %v: Scan = %v, want %v", keep, recs, left)
	}
	l, _ := open(t, d)
	left = append(slices.Clone(left), add(t, l, "anew", placed(60, 3))...)
	scans(t, d, sight{left, l.Next(), toldScan(sectorsOf(t, d)).greatest})
}

// TestComesBack holds that pages by hand of any epoch, behind the chain's end, each of which would go on with the chain, never come into it when records of any length are appended (19.4).
func TestComesBack(t *testing.T) {
	for _, epoch := range []uint32{1, 2, 3, 1000, 1<<32 - 2} {
		for end := 1; end < 20; end++ {
			for size := 1; size < 800; size += 24 {
				d := laid(t, 96, upTo(end))
				for i := end + 1; i < 96; i++ {
					s := single(epoch)
					switch {
					case i%span == 0:
						s = heads(epoch)
					case size%5 == 0:
						s = piece(epoch, "old")
					case size%5 == 1:
						s = last(epoch, "old")
					}
					d.Write(i, s(i))
				}
				l, recs := open(t, d)
				for i := range 3 {
					recs = append(recs, add(t, l, placed(size, i))...)
					scans(t, d, sight{recs, l.Next(), epoch + 1})
				}
				if t.Failed() {
					t.Fatalf("of the epoch %d, behind %d, by %d bytes", epoch, end, size)
				}
			}
		}
	}
}
