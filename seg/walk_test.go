package seg_test

import (
	"slices"
	"testing"

	"spool/api"
	"spool/disk"
	"spool/seg"
)

// A walker takes the same steps with a log and with one as told, each on a disk of its own.
type walker struct {
	t      *testing.T
	next   func(n int) int
	d, e   *disk.Disk
	log    *seg.Log
	like   *told
	all    []seg.Rec // what was there, and was appended
	sure   int       // how many of them were synced
	broken bool      // whether that holds no more: something was written by hand, or by a log whose power had gone
}

// walks answers a walker with new disks.
func walks(t *testing.T, next func(n int) int) *walker {
	sizes := []int{32, 33, 47, 48, 80, 128}
	size := sizes[next(len(sizes))]
	w := &walker{t: t, next: next, d: fresh(t, size), e: fresh(t, size)}
	w.opens()
	return w
}

// opens opens both logs: what was synced is there, and of the rest a beginning.
func (w *walker) opens() {
	w.t.Helper()
	log, recs := open(w.t, w.d)
	like, others := toldOpen(w.t, w.e)
	if !slices.Equal(recs, others) {
		w.t.Fatalf("Open = %v, want %v", recs, others)
	}
	w.log, w.like = log, like
	if w.broken {
		w.makesSure()
		w.all, w.sure, w.broken = recs, len(recs), false
		return
	}
	if len(recs) < w.sure || len(recs) > len(w.all) || !slices.Equal(recs, w.all[:len(recs)]) {
		w.t.Fatalf("Open = %v, %d sure of %v", recs, w.sure, w.all)
	}
	w.all = recs
}

// makesSure makes all sure that is on both disks.
func (w *walker) makesSure() {
	w.d.Fuse(-1)
	w.e.Fuse(-1)
	w.d.Sync()
	w.e.Sync()
}

// adds appends a record to both logs.
func (w *walker) adds() {
	w.t.Helper()
	size := w.next(160)
	switch w.next(12) {
	case 0:
		size = w.next(1600)
	case 1:
		size = w.next(4200)
	}
	s := text(size, w.next)
	at, err := w.log.Append(s)
	if want, wantErr := w.like.Append(s); at != want || err != wantErr {
		w.t.Fatalf("Append of %d bytes = %d, %d, want %d, %d", size, at, err, want, wantErr)
	}
	if err == api.OK {
		w.all = append(w.all, seg.Rec{At: at, Text: s})
	}
}

// syncs syncs both logs.
func (w *walker) syncs() {
	w.t.Helper()
	err := w.log.Sync()
	if want := w.like.Sync(); err != want {
		w.t.Fatalf("Sync = %d, want %d", err, want)
	}
	if err == api.OK {
		w.sure = len(w.all)
	}
}

// crashes lets the power of both disks go, and some of the writes are kept.
func (w *walker) crashes() {
	keep := make([]bool, w.next(w.d.Loose()+2))
	often := w.next(5)
	for i := range keep {
		keep[i] = w.next(4) < often
	}
	w.d.Crash(keep)
	w.e.Crash(keep)
	// At times it is up only when the logs have met it.
	if w.next(3) == 0 {
		w.adds()
		w.syncs()
	}
	w.d.Up()
	w.e.Up()
}

// spoils writes what may be a page by hand, on both disks, which goes ahead of an opening.
func (w *walker) spoils() {
	w.broken = true
	for range 1 + w.next(3) {
		i := w.next(w.d.Size())
		s := wrongSector(w.next, i, uint32(w.next(9)))
		b := s(i)
		w.d.Write(i, b)
		w.e.Write(i, b)
	}
	w.opens()
}

// fuses sets a fuse on both disks.
func (w *walker) fuses() {
	n := []int{-1, -1, -1, 0, 1, 2, 3, 5, 9}[w.next(9)]
	w.d.Fuse(n)
	w.e.Fuse(n)
}

// step takes a step, and answers its name.
func (w *walker) step() string {
	w.t.Helper()
	switch w.next(40) {
	case 0, 1, 2, 3:
		w.crashes()
		w.opens()
		return "crash"
	case 4:
		w.crashes()
		w.broken = true
		return "crash, and no opening"
	case 5, 6, 7:
		w.opens()
		return "open"
	case 8, 9, 10, 11, 12:
		w.syncs()
		return "sync"
	case 13, 14:
		w.fuses()
		return "fuse"
	case 15:
		if w.next(4) == 0 {
			w.spoils()
			return "spoil"
		}
	}
	w.adds()
	return "append"
}

// alike holds that both logs and both disks are alike.
func (w *walker) alike() bool {
	sectors := sectorsOf(w.t, w.d)
	want := toldScan(sectors)
	recs, next, greatest, err := seg.Scan(w.d)
	return slices.Equal(sectors, sectorsOf(w.t, w.e)) && w.d.Loose() == w.e.Loose() &&
		w.log.Next() == w.like.Next() && w.log.Frozen() == w.like.Frozen() &&
		want.equal(sight{recs, next, greatest}) && err == api.OK
}

// TestLongWalks holds logs against ones as told, on long walks of mixed steps: all that is answered and written, and what is there whenever the power went (19.1, 19.2, 19.4).
func TestLongWalks(t *testing.T) {
	next := mixed()
	for round := range 250 {
		w := walks(t, next)
		for at := range 60 {
			if name := w.step(); !w.alike() {
				t.Fatalf("round %d, step %d, %s: Next = %d, %d, Frozen = %v, %v", round, at, name, w.log.Next(), w.like.Next(), w.log.Frozen(), w.like.Frozen())
			}
		}
	}
}
