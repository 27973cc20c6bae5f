package seg_test

import (
	"encoding/hex"
	"math"
	"slices"
	"strings"
	"testing"

	"spool/api"
	"spool/disk"
	"spool/page"
	"spool/seg"
)

// holdsPages holds that a disk has just these pages where a record was appended, byte for byte, and elsewhere what it had.
func holdsPages(t *testing.T, d *disk.Disk, was []api.Page, list []page.Page) {
	t.Helper()
	want := slices.Clone(was)
	for _, p := range list {
		want[p.Number] = bytesOf(p)
	}
	for i, b := range sectorsOf(t, d) {
		if b != want[i] {
			p, _ := page.Read(b)
			q, _ := page.Read(want[i])
			t.Errorf("at %d: %x, %+v, want %x, %+v", i, b, p, want[i], q)
		}
	}
}

// appends holds that a record is appended at the next page as the chapter tells it, in a log of this epoch.
func appends(t *testing.T, d *disk.Disk, l *seg.Log, epoch uint32, s string) {
	t.Helper()
	was, loose, next := sectorsOf(t, d), d.Loose(), l.Next()
	list := toldPages(epoch, next, s)
	want := next
	if next%span == 0 {
		want++
	}
	if at, err := l.Append(s); at != want || err != api.OK {
		t.Errorf("Append of %d bytes at %d = %d, %d, want %d", len(s), next, at, err, want)
	}
	holdsPages(t, d, was, list)
	if l.Next() != next+len(list) || l.Frozen() || d.Loose() != loose+len(list) || seg.Need(next, len(s)) != len(list) {
		t.Errorf("Append of %d bytes at %d: then Next = %d, Frozen = %v, Loose = %d more; %d pages were told", len(s), next, l.Next(), l.Frozen(), d.Loose()-loose, len(list))
	}
}

// epochBehind answers the epoch of a log that is opened on a disk, by the chapter's words.
func epochBehind(t *testing.T, d *disk.Disk) uint32 {
	t.Helper()
	return toldScan(sectorsOf(t, d)).greatest + 1
}

// TestPages holds what is written for records of all named lengths, at each page of two segments, in several epochs (19.2).
func TestPages(t *testing.T) {
	for _, epoch := range []uint32{1, 2, 256, 1 << 31, math.MaxUint32} {
		for next := range 33 {
			for _, size := range []int{1, 48, 49, 50, 98, 99, 686, 687, 735, 736, 1470, 1471, 4095, 4096} {
				d := laid(t, 160, upTo(next))
				if epoch > 1 {
					d.Write(159, single(epoch-1)(159))
				}
				epoch := epochBehind(t, d)
				l, _ := open(t, d)
				appends(t, d, l, epoch, placed(size, next))
				if t.Failed() {
					t.Fatalf("of %d bytes, at %d, of the epoch %d", size, next, epoch)
				}
			}
		}
	}
}

// TestAllLengths appends records of all lengths, one behind the other, over and over on new disks: each segment of a disk has each kind of page at its begin (19.2).
func TestAllLengths(t *testing.T) {
	d := fresh(t, 1024)
	l, _ := open(t, d)
	var list []seg.Rec
	next := 0
	for size := 1; size <= most; size += 13 {
		s := placed(size, size)
		need := toldNeed(uint64(next), size)
		if next+need > 1024 {
			if at, err := l.Append(s); at != 0 || err != api.ErrFull {
				t.Fatalf("Append of %d bytes at %d = %d, %d", size, next, at, err)
			}
			scans(t, d, sight{list, next, 1})
			d = fresh(t, 1024)
			l, _ = open(t, d)
			list, next = nil, 0
			need = toldNeed(0, size)
		}
		list = append(list, add(t, l, s)...)
		next += need
		if l.Next() != next {
			t.Fatalf("behind %d bytes: Next = %d, want %d", size, l.Next(), next)
		}
	}
	scans(t, d, sight{list, next, 1})
}

// TestEachSegment holds the head of each segment of the greatest disk, ahead of a record and in the midst of one (19.2).
func TestEachSegment(t *testing.T) {
	d, e := fresh(t, 1024), fresh(t, 1024)
	l, _ := open(t, d)
	m, _ := open(t, e)
	for range 64 {
		appends(t, d, l, 1, placed(735, 1)) // 15 pieces
	}
	for range 78 {
		appends(t, e, m, 1, placed(590, 2)) // 13 pieces, the last of 2 bytes
		if t.Failed() || e.Size()-m.Next() < 14 {
			break
		}
	}
	if l.Next() != 1024 {
		t.Errorf("Next = %d", l.Next())
	}
	for i := range 64 {
		want := bytesOf(page.Page{Epoch: 1, Number: uint32(16 * i), Kind: head, Data: four(i)})
		for _, on := range []*disk.Disk{d, e} {
			if b, _ := on.Read(16 * i); b != want {
				t.Errorf("at %d: %x, want %x", 16*i, b, want)
			}
		}
	}
}

// TestWorkedOut holds bytes that are written against such as were worked out apart (19.2).
func TestWorkedOut(t *testing.T) {
	digits := strings.Repeat("0123456789", 20)
	for _, c := range []struct {
		ahead  []sector
		strays map[int]sector
		recs   []string
		at     []int
		want   map[int]string // without the zero bytes at their ends
	}{
		{nil, nil, []string{"a", digits[:50]}, []int{1, 2}, map[int]string{
			0: "f71719020100000000000000010004",
			1: "6fbbb017010000000100000002030161",
			2: "3cae3ab5010000000200000002013130313233343536373839303132333435363738393031323334353637383930313233343536373839303132333435363738",
			3: "f3410e70010000000300000002020139",
		}},
		{upTo(14), nil, []string{digits[:99]}, []int{14}, map[int]string{
			14: "d7ece2bc020000000e00000002013130313233343536373839303132333435363738393031323334353637383930313233343536373839303132333435363738",
			15: "cc77b356020000000f00000002003139303132333435363738393031323334353637383930313233343536373839303132333435363738393031323334353637",
			16: "e15b7195020000001000000001000401",
			17: "e4c01fde020000001100000002020138",
		}},
		{upTo(1007), map[int]sector{1020: single(257)}, []string{strings.Repeat("\xff", 50) + "\x00"}, []int{1007}, map[int]string{
			1007: "c5dd024302010000ef030000020131" + strings.Repeat("ff", 49),
			1008: "b675fc7202010000f00300000100043f",
			1009: "daa7753102010000f1030000020202ff",
		}},
		{upTo(4), map[int]sector{9: single(math.MaxUint32 - 1)}, []string{"\x00"}, []int{4}, map[int]string{
			4: "9b43b96affffffff04000000020301",
		}},
	} {
		d := laid(t, 1024, c.ahead)
		for i, s := range c.strays {
			d.Write(i, s(i))
		}
		l, _ := open(t, d)
		for i, rec := range add(t, l, c.recs...) {
			if rec.At != c.at[i] {
				t.Errorf("Append of %q = %d, want %d", rec.Text, rec.At, c.at[i])
			}
		}
		for i, want := range c.want {
			want += strings.Repeat("00", 64-len(want)/2)
			b, _ := d.Read(i)
			if got := hex.EncodeToString(b[:]); got != want {
				t.Errorf("at %d: %s, want %s", i, got, want)
			}
		}
	}
}

// refusesAll holds that a log refuses these records with an error, and that nothing is changed by it.
func refusesAll(t *testing.T, d *disk.Disk, l *seg.Log, want api.Errno, recs ...string) {
	t.Helper()
	was, loose, next, frozen := sectorsOf(t, d), d.Loose(), l.Next(), l.Frozen()
	for _, s := range recs {
		if at, err := l.Append(s); at != 0 || err != want {
			t.Errorf("Append of %d bytes at %d = %d, %d, want %d", len(s), next, at, err, want)
		}
	}
	if !slices.Equal(sectorsOf(t, d), was) || d.Loose() != loose {
		t.Errorf("refused with %d: something was written, or synced", want)
	}
	if l.Next() != next || l.Frozen() != frozen {
		t.Errorf("refused with %d: then Next = %d, Frozen = %v", want, l.Next(), l.Frozen())
	}
}

// strangers answers texts of lengths that no record has.
func strangers() []string {
	return []string{"", placed(4097, 1), placed(4098, 1), placed(4116, 1), placed(4117, 1), placed(8192, 1), placed(1<<16, 1), placed(1<<16+1, 1), placed(1<<20, 1)}
}

// TestSizes tries texts that are no records, in a log that has room, in a full one and in a frozen one: their length is told first, and freezes nothing (19.2).
func TestSizes(t *testing.T) {
	for _, list := range [][]sector{nil, upTo(5), upTo(16), upTo(31), upTo(32), row(upTo(3), single(math.MaxUint32))} {
		d := laid(t, 40, list)
		epoch := epochBehind(t, d)
		l, _ := open(t, d)
		refusesAll(t, d, l, api.ErrSize, strangers()...)
		d.Fuse(0)
		refusesAll(t, d, l, api.ErrSize, strangers()...)
		d.Fuse(-1)
		if next := l.Next(); next < 32 && !l.Frozen() {
			appends(t, d, l, epoch, "a")
		}
	}
	d := fresh(t, 32)
	l, _ := open(t, d)
	d.Crash(nil)
	for _, s := range strangers() {
		if at, err := l.Append(s); at != 0 || err != api.ErrSize || l.Frozen() {
			t.Errorf("down: Append of %d bytes = %d, %d", len(s), at, err)
		}
	}
	d.Up()
	appends(t, d, l, 1, "a")
}

// TestFull tries records that just fit, and such as are a page too long, at each page of disks of several sizes: of these nothing is written, and the log goes on (19.2).
func TestFull(t *testing.T) {
	for _, size := range []int{32, 33, 47, 48, 63} {
		end := size / span * span
		for next := range end + 1 {
			d := laid(t, size, upTo(next))
			epoch := epochBehind(t, d)
			l, _ := open(t, d)
			fits := 0 // the greatest record that fits
			for n := 1; n <= most && toldNeed(uint64(next), n) <= end-next; n++ {
				fits = n
			}
			if fits == most {
				t.Fatalf("all records fit at %d of %d", next, size)
			}
			refusesAll(t, d, l, api.ErrFull, placed(fits+1, 1), placed(fits+50, 1), placed(4096, 1))
			d.Fuse(0)
			refusesAll(t, d, l, api.ErrFull, placed(fits+1, 2), placed(4096, 2))
			d.Fuse(-1)
			if fits > 0 {
				appends(t, d, l, epoch, placed(fits, 3))
				if l.Next() != end {
					t.Errorf("at %d of %d: a record of %d bytes leaves Next = %d", next, size, fits, l.Next())
				}
			}
			refusesAll(t, d, l, api.ErrFull, "a")
			makeSure(t, l)
			if t.Failed() {
				t.Fatalf("at %d of %d sectors", next, size)
			}
		}
	}
}

// TestFullDown holds that no room is told ahead of the disk's error, and freezes nothing (19.2).
func TestFullDown(t *testing.T) {
	d := fresh(t, 33)
	l, _ := open(t, d)
	add(t, l, placed(1400, 1))
	makeSure(t, l)
	next := l.Next()
	d.Crash(nil)
	for _, size := range []int{200, 4096} {
		if at, err := l.Append(placed(size, 1)); at != 0 || err != api.ErrFull || l.Frozen() || l.Next() != next {
			t.Errorf("Append of %d bytes = %d, %d; Next = %d, Frozen = %v", size, at, err, l.Next(), l.Frozen())
		}
	}
	d.Up()
	appends(t, d, l, 1, "a")
}

// TestFullFrozen holds that a frozen log tells so ahead of there being no room, and behind a text's length (19.2).
func TestFullFrozen(t *testing.T) {
	d := laid(t, 33, row(upTo(32), single(math.MaxUint32)))
	d.Write(32, single(math.MaxUint32)(32))
	l, _ := open(t, d)
	staysFrozen(t, l, 32)
	// By a sync that is refused.
	d = laid(t, 32, upTo(32))
	l, _ = open(t, d)
	refusesAll(t, d, l, api.ErrFull, "a")
	d.Fuse(0)
	if err := l.Sync(); err != api.ErrDisk {
		t.Errorf("Sync = %d", err)
	}
	staysFrozen(t, l, 32)
}

// TestInOrder holds that what was appended is scanned, in order, with the pages that were told (19.4).
func TestInOrder(t *testing.T) {
	sizes := []int{1, 49, 50, 735, 736, 4096}
	for _, first := range sizes {
		for _, second := range sizes {
			for _, third := range sizes {
				d := fresh(t, 400)
				l, _ := open(t, d)
				list := add(t, l, placed(first, 1), placed(second, 2), placed(third, 3), placed(first, 1))
				scans(t, d, sight{list, l.Next(), 1})
				next := l.Next()
				makeSure(t, l)
				m, recs := open(t, d)
				if !slices.Equal(recs, list) || m.Next() != next {
					t.Errorf("of %d, %d and %d bytes: Open = %v", first, second, third, recs)
				}
			}
		}
	}
	d := fresh(t, 1024)
	l, _ := open(t, d)
	var list []seg.Rec
	for i := range 900 {
		list = append(list, add(t, l, placed(1+i%49, i))...)
		if i%50 == 0 {
			scans(t, d, sight{list, l.Next(), 1})
		}
	}
	scans(t, d, sight{list, l.Next(), 1})
}

// TestAnew holds that what is appended behind an opening is scanned behind what was there, whether it was synced or not (19.4).
func TestAnew(t *testing.T) {
	for _, sure := range []bool{false, true} {
		d := fresh(t, 1024)
		var list []seg.Rec
		for round := range 40 {
			epoch := epochBehind(t, d)
			l, recs := open(t, d)
			if !slices.Equal(recs, list) {
				t.Fatalf("round %d: Open = %v, want %v", round, recs, list)
			}
			for i := range round % 4 {
				appends(t, d, l, epoch, placed(1+round*29+i, i))
			}
			if sure {
				makeSure(t, l)
			}
			s := toldScan(sectorsOf(t, d))
			if l.Next() != s.next || len(s.recs) != len(list)+round%4 || !slices.Equal(s.recs[:len(list)], list) {
				t.Fatalf("round %d: Next = %d, told %+v", round, l.Next(), s)
			}
			list = s.recs
			scans(t, d, s)
		}
	}
}

// TestStaysAsIs holds that a record's text isn't changed, nor kept: what was appended is what is scanned (19.2).
func TestStaysAsIs(t *testing.T) {
	b := []byte(placed(500, 9))
	d := fresh(t, 32)
	l, _ := open(t, d)
	list := add(t, l, string(b))
	b[0], b[300] = 0, 0
	add(t, l, string(b))
	recs, _, _, _ := seg.Scan(d)
	if len(recs) != 2 || recs[0] != list[0] || recs[1].Text != string(b) {
		t.Errorf("Scan = %v", recs)
	}
}
