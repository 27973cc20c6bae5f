package seg_test

import (
	"encoding/binary"
	"math"
	"slices"
	"strconv"
	"strings"
	"testing"

	"spool/api"
	"spool/crc"
	"spool/disk"
	"spool/page"
	"spool/seg"
)

// A sector is what stands at a place: bytes that hang on where it is.
type sector func(i int) api.Page

// bytesOf answers a right page's bytes.
func bytesOf(p page.Page) api.Page {
	b, err := page.Lay(p)
	if err != api.OK {
		panic("a page that isn't right")
	}
	return b
}

// here answers a page with its sector's number.
func here(p page.Page) sector {
	return func(i int) api.Page {
		p.Number = uint32(i)
		return bytesOf(p)
	}
}

// as answers a page with a number of its own.
func as(p page.Page) sector {
	return func(int) api.Page { return bytesOf(p) }
}

// raw answers bytes, wherever they stand.
func raw(b api.Page) sector {
	return func(int) api.Page { return b }
}

// headed answers a head of these data.
func headed(epoch uint32, s string) sector {
	return here(page.Page{Epoch: epoch, Kind: head, Data: s})
}

// heads answers the head of the segment where it stands.
func heads(epoch uint32) sector {
	return func(i int) api.Page { return headed(epoch, four(i/span))(i) }
}

func piece(epoch uint32, s string) sector {
	return here(page.Page{Epoch: epoch, Kind: data, Data: s})
}

func first(epoch uint32, s string) sector {
	return here(page.Page{Epoch: epoch, Kind: data, First: true, Data: s})
}

func last(epoch uint32, s string) sector {
	return here(page.Page{Epoch: epoch, Kind: data, Last: true, Data: s})
}

func both(epoch uint32, s string) sector {
	return here(page.Page{Epoch: epoch, Kind: data, First: true, Last: true, Data: s})
}

// single answers a record of one piece, which tells where it stands.
func single(epoch uint32) sector {
	return func(i int) api.Page { return both(epoch, strconv.Itoa(i))(i) }
}

// singles answers the records that such sectors have.
func singles(from, to int) []seg.Rec {
	var list []seg.Rec
	for i := from; i <= to; i++ {
		if i%span != 0 {
			list = append(list, seg.Rec{At: i, Text: strconv.Itoa(i)})
		}
	}
	return list
}

// upTo answers sectors of epoch 1 that stand in the chain: heads and single records, up to the one ahead of n.
func upTo(n int) []sector {
	var list []sector
	for i := range n {
		if i%span == 0 {
			list = append(list, heads(1))
		} else {
			list = append(list, single(1))
		}
	}
	return list
}

// row answers sectors, and others behind them.
func row(list []sector, more ...sector) []sector {
	return slices.Concat(list, more)
}

// rec answers one record.
func rec(at int, s string) []seg.Rec {
	return []seg.Rec{{At: at, Text: s}}
}

// bent answers the bytes of a page of data of epoch 9 with a byte put to another, and the sum that they then have.
func bent(i, at int, x byte) api.Page {
	b := both(9, "abc")(i)
	b[at] = x
	binary.LittleEndian.PutUint32(b[:], crc.Sum(string(b[4:])))
	return b
}

// noPages answers bytes that are no page, each told of epoch 9 if it tells one.
func noPages() map[string]sector {
	list := map[string]sector{
		"0s":         raw(api.Page{}),
		"255s":       raw(api.Page([]byte(strings.Repeat("\xff", 64)))),
		"kind 0":     func(i int) api.Page { return bent(i, 12, 0) },
		"kind 3":     func(i int) api.Page { return bent(i, 12, 3) },
		"marks 4":    func(i int) api.Page { return bent(i, 13, 4) },
		"marks 7":    func(i int) api.Page { return bent(i, 13, 7) },
		"a head's":   func(i int) api.Page { return bent(i, 12, 1) },
		"no data":    func(i int) api.Page { return bent(i, 14, 0) },
		"50 bytes":   func(i int) api.Page { return bent(i, 14, 50) },
		"a byte off": func(i int) api.Page { return bent(i, 14, 2) },
		"an end":     func(i int) api.Page { return bent(i, 63, 1) },
	}
	for _, at := range []int{0, 3, 4, 8, 12, 13, 14, 15, 40, 63} {
		list["changed at "+strconv.Itoa(at)] = func(i int) api.Page {
			b := both(9, "abc")(i)
			b[at] ^= 128
			return b
		}
	}
	return list
}

// laid answers a disk of so many sectors, with these from 0 on.
func laid(t *testing.T, size int, list []sector) *disk.Disk {
	t.Helper()
	d := fresh(t, size)
	for i, s := range list {
		if err := d.Write(i, s(i)); err != api.OK {
			t.Fatalf("Write(%d) = %d", i, err)
		}
	}
	return d
}

// opensAs holds what an opened log is behind what a scan is to answer: its records, the next page, and the epoch, which what is appended has.
func opensAs(t *testing.T, d *disk.Disk, want sight) {
	t.Helper()
	l, recs := open(t, d)
	if !slices.Equal(recs, want.recs) || l.Next() != want.next || l.Frozen() != (want.greatest == math.MaxUint32) {
		t.Errorf("Open = %+v, then Next = %d, Frozen = %v, want %+v", recs, l.Next(), l.Frozen(), want)
		return
	}
	if l.Frozen() || seg.Need(want.next, 1) > d.Size()/span*span-want.next {
		return
	}
	at, err := l.Append("z")
	if err != api.OK {
		t.Errorf("Append at %d = %d, %d", want.next, at, err)
		return
	}
	b, _ := d.Read(at)
	if p, _ := page.Read(b); p.Epoch != want.greatest+1 || p.Number != uint32(at) || p.Data != "z" {
		t.Errorf("appended at %d: %+v, want the epoch %d", at, p, want.greatest+1)
	}
}

// scanned holds what a disk with these sectors is scanned and opened as.
func scanned(t *testing.T, size int, list []sector, want sight) {
	t.Helper()
	d := laid(t, size, list)
	scans(t, d, want)
	if s := toldScan(sectorsOf(t, d)); !s.equal(want) {
		t.Errorf("told as %+v, want %+v", s, want)
	}
	opensAs(t, d, want)
}

// A named is a row of sectors and what it is scanned as.
type named struct {
	name string
	row  []sector
	want sight
}

// tryNamed tries rows on disks of several sizes.
func tryNamed(t *testing.T, list []named) {
	t.Helper()
	for _, c := range list {
		t.Run(c.name, func(t *testing.T) {
			for _, size := range []int{32, 33, 47, 48, 64} {
				if len(c.row) <= size/span*span {
					scanned(t, size, c.row, c.want)
				}
			}
		})
	}
}

// TestRecords tries records of one piece and of several, ended and begun (19.1).
func TestRecords(t *testing.T) {
	tryNamed(t, []named{
		{"nothing", nil, sight{nil, 0, 0}},
		{"a head", row(nil, heads(1)), sight{nil, 1, 1}},
		{"one piece", row(nil, heads(1), both(1, "a")), sight{rec(1, "a"), 2, 1}},
		{"two pieces", row(nil, heads(1), first(1, "a"), last(1, "b")), sight{rec(1, "ab"), 3, 1}},
		{"three pieces", row(nil, heads(3), first(3, "ab"), piece(3, "\x00"), last(3, "cd")), sight{rec(1, "ab\x00cd"), 4, 3}},
		{"two records", row(nil, heads(1), both(1, "a"), first(1, "b"), last(1, "c")), sight{[]seg.Rec{{At: 1, Text: "a"}, {At: 2, Text: "bc"}}, 4, 1}},
		{"two likes", row(nil, heads(1), first(1, "a"), last(1, "a"), first(1, "a"), last(1, "a")), sight{[]seg.Rec{{At: 1, Text: "aa"}, {At: 3, Text: "aa"}}, 5, 1}},
		{"begun", row(nil, heads(1), first(1, "a")), sight{nil, 1, 1}},
		{"begun, and on", row(nil, heads(1), first(1, "a"), piece(1, "b"), piece(1, "c")), sight{nil, 1, 1}},
		{"begun behind one", row(nil, heads(1), both(1, "a"), first(1, "b"), piece(1, "c")), sight{rec(1, "a"), 2, 1}},
		{"begun behind two", row(nil, heads(1), first(1, "a"), last(1, "b"), both(1, "c"), first(1, "d")), sight{[]seg.Rec{{At: 1, Text: "ab"}, {At: 3, Text: "c"}}, 4, 1}},
		{"a whole segment", upTo(16), sight{singles(1, 15), 16, 1}},
		{"a page short of one", upTo(15), sight{singles(1, 14), 15, 1}},
		{"two segments", upTo(32), sight{singles(1, 31), 32, 1}},
		{"a record over all", slices.Concat(row(nil, heads(1), first(1, "a")), slices.Repeat(row(nil, piece(1, "b")), 14), row(nil, heads(1)), slices.Repeat(row(nil, piece(1, "c")), 14), row(nil, last(1, "d"))), sight{rec(1, "a"+strings.Repeat("b", 14)+strings.Repeat("c", 14)+"d"), 32, 1}},
		{"begun in the last page", row(upTo(31), first(1, "a")), sight{singles(1, 30), 31, 1}},
	})
}

// TestPlaces tries pages whose number, kind or data aren't those of where they stand (19.1).
func TestPlaces(t *testing.T) {
	list := []named{
		{"data first of all", row(nil, both(1, "a"), both(1, "b")), sight{nil, 0, 1}},
		{"data first of all, as a head's", row(nil, both(1, four(0)), both(1, "b")), sight{nil, 0, 1}},
		{"a beginning first of all, as a head's", row(nil, first(1, four(0)), last(1, "b")), sight{nil, 0, 1}},
		{"data first of a segment, as a head's", row(upTo(16), both(1, four(1)), single(1)), sight{singles(1, 15), 16, 1}},
		{"data first of a segment, as a head's, in the midst", row(upTo(15), first(1, "a"), piece(1, four(1)), last(1, "b")), sight{singles(1, 14), 15, 1}},
		{"an end first of a segment, as a head's", row(upTo(15), first(1, "a"), last(1, four(1)), single(1)), sight{singles(1, 14), 15, 1}},
		{"data as a head's", row(nil, heads(1), both(1, four(0)), both(1, four(1))), sight{[]seg.Rec{{At: 1, Text: four(0)}, {At: 2, Text: four(1)}}, 3, 1}},
		{"a head behind a head", row(nil, heads(1), heads(1), both(1, "a")), sight{nil, 1, 1}},
		{"a head in the midst", row(nil, heads(1), first(1, "a"), heads(1), last(1, "b")), sight{nil, 1, 1}},
		{"a head behind a record", row(nil, heads(1), both(1, "a"), headed(2, four(2)), both(2, "b")), sight{rec(1, "a"), 2, 2}},
		{"a head a page late", row(upTo(16), single(1), heads(1)), sight{singles(1, 15), 16, 1}},
		{"a head a page early", row(upTo(15), headed(1, four(1)), single(1)), sight{singles(1, 14), 15, 1}},
		{"data first of a segment", row(upTo(16), first(1, "a"), last(1, "b")), sight{singles(1, 15), 16, 1}},
		{"data first of a segment, in the midst", row(upTo(15), first(1, "a"), last(1, "b")), sight{singles(1, 14), 15, 1}},
		{"one segment's head for another's", row(upTo(16), headed(1, four(0)), single(1)), sight{singles(1, 15), 16, 1}},
	}
	for _, s := range []string{four(1), four(16), four(256), four(1 << 16), four(1 << 24), "\x00", "\x00\x00\x00", "\x00\x00\x00\x00\x00", strings.Repeat("\x00", 49), "\xff\xff\xff\xff", "0000"} {
		list = append(list, named{"first head of " + strconv.Quote(s), row(nil, headed(1, s), both(1, "a")), sight{nil, 0, 1}})
	}
	for _, s := range []string{four(0), four(2), four(17), four(257), "\x01", "\x01\x00\x00", "\x01\x00\x00\x00\x00", "\x01" + strings.Repeat("\x00", 48), "\x00\x00\x00\x01", "1000"} {
		list = append(list, named{"second head of " + strconv.Quote(s), row(upTo(16), headed(1, s), single(1)), sight{singles(1, 15), 16, 1}})
		list = append(list, named{"in the midst, second head of " + strconv.Quote(s), row(upTo(15), first(1, "a"), headed(1, s), last(1, "b")), sight{singles(1, 14), 15, 1}})
	}
	for _, n := range []uint32{0, 1, 3, 17, 18, 258, 2 + 1<<16, 2 + 1<<24, math.MaxUint32} {
		p := page.Page{Epoch: 1, Number: n, Kind: data, First: true, Last: true, Data: "b"}
		list = append(list, named{"data numbered " + strconv.Itoa(int(n)), row(nil, heads(1), both(1, "a"), as(p), both(1, "c")), sight{rec(1, "a"), 2, 1}})
		p.First = false
		list = append(list, named{"last numbered " + strconv.Itoa(int(n)), row(nil, heads(1), first(1, "a"), as(p), both(1, "c")), sight{nil, 1, 1}})
	}
	for _, n := range []uint32{1, 16, 256, 1 << 16, 1 << 31, math.MaxUint32} {
		list = append(list, named{"head numbered " + strconv.Itoa(int(n)), row(nil, as(page.Page{Epoch: 1, Number: n, Kind: head, Data: four(0)}), both(1, "a")), sight{nil, 0, 1}})
		list = append(list, named{"second head numbered " + strconv.Itoa(int(16+n)), row(upTo(16), as(page.Page{Epoch: 1, Number: 16 + n, Kind: head, Data: four(1)}), single(1)), sight{singles(1, 15), 16, 1}})
	}
	tryNamed(t, list)
}

// TestEpochs tries epochs lesser and greater than the one of the page ahead, and the same (19.1).
func TestEpochs(t *testing.T) {
	list := []named{
		{"of 0", row(nil, heads(0), both(0, "a")), sight{rec(1, "a"), 2, 0}},
		{"of 0, then 1", row(nil, heads(0), both(0, "a"), both(1, "b"), both(0, "c")), sight{[]seg.Rec{{At: 1, Text: "a"}, {At: 2, Text: "b"}}, 3, 1}},
		{"lesser behind a head", row(nil, heads(2), both(1, "a"), both(2, "b")), sight{nil, 1, 2}},
		{"greater behind a head", row(nil, heads(1), both(2, "a")), sight{rec(1, "a"), 2, 2}},
		{"lesser than a greater one", row(nil, heads(1), both(2, "a"), both(1, "b"), both(3, "c")), sight{rec(1, "a"), 2, 3}},
		{"no lesser", row(nil, heads(1), both(3, "a"), both(3, "b"), both(7, "c"), both(6, "d")), sight{[]seg.Rec{{At: 1, Text: "a"}, {At: 2, Text: "b"}, {At: 3, Text: "c"}}, 4, 7}},
		{"lesser in the midst", row(nil, heads(1), first(2, "a"), last(1, "b")), sight{nil, 1, 2}},
		{"lesser in the midst, as the head's", row(nil, heads(1), both(2, "a"), first(2, "b"), piece(1, "c"), last(2, "d")), sight{rec(1, "a"), 2, 2}},
		{"lesser begins anew", row(nil, heads(2), both(2, "a"), first(1, "b"), last(1, "c")), sight{rec(1, "a"), 2, 2}},
		{"greater begins anew", row(nil, heads(1), first(1, "a"), last(1, "b"), first(2, "c"), last(2, "d")), sight{[]seg.Rec{{At: 1, Text: "ab"}, {At: 3, Text: "cd"}}, 5, 2}},
		{"a lesser head", row(nil, slices.Concat(upTo(14), row(nil, both(2, "a"), both(2, "b"), heads(1), both(2, "c")))...), sight{append(singles(1, 13), seg.Rec{At: 14, Text: "a"}, seg.Rec{At: 15, Text: "b"}), 16, 2}},
		{"a greater head", row(upTo(16), heads(2), both(2, "a")), sight{append(singles(1, 15), seg.Rec{At: 17, Text: "a"}), 18, 2}},
		{"lesser than a greater head", row(upTo(16), heads(2), both(1, "a")), sight{singles(1, 15), 17, 2}},
		{"far apart", row(nil, heads(1<<31-1), both(1<<31, "a"), both(1<<31+1, "b"), both(1<<31-1, "c")), sight{[]seg.Rec{{At: 1, Text: "a"}, {At: 2, Text: "b"}}, 3, 1<<31 + 1}},
		{"the greatest but one", row(nil, heads(1), both(math.MaxUint32-1, "a")), sight{rec(1, "a"), 2, math.MaxUint32 - 1}},
		{"the greatest", row(nil, heads(0), both(math.MaxUint32, "a"), both(0, "b")), sight{rec(1, "a"), 2, math.MaxUint32}},
		{"the greatest of all pages", row(nil, heads(math.MaxUint32), first(math.MaxUint32, "a"), last(math.MaxUint32, "b")), sight{rec(1, "ab"), 3, math.MaxUint32}},
	}
	tryNamed(t, list)
}

// TestRefused tries pages that a joiner refuses, and what stands behind them (19.1).
func TestRefused(t *testing.T) {
	tryNamed(t, []named{
		{"on, none begun", row(nil, heads(1), piece(1, "a"), both(1, "b")), sight{nil, 1, 1}},
		{"an end, none begun", row(nil, heads(1), last(1, "a"), both(1, "b")), sight{nil, 1, 1}},
		{"on, behind a record", row(nil, heads(1), both(1, "a"), piece(1, "b"), both(1, "c")), sight{rec(1, "a"), 2, 1}},
		{"an end, behind a record", row(nil, heads(1), first(1, "a"), last(1, "b"), last(1, "c"), both(1, "d")), sight{rec(1, "ab"), 3, 1}},
		{"first, one begun", row(nil, heads(1), both(1, "x"), first(1, "a"), first(1, "b"), last(1, "c")), sight{rec(1, "x"), 2, 1}},
		{"first, one begun and on", row(nil, heads(1), first(1, "a"), piece(1, "b"), first(1, "c"), last(1, "d")), sight{nil, 1, 1}},
		{"both, one begun", row(nil, heads(1), both(1, "x"), first(1, "a"), both(1, "b"), both(1, "c")), sight{rec(1, "x"), 2, 1}},
		{"both of a greater epoch, one begun", row(nil, heads(1), first(1, "a"), both(2, "b"), both(2, "c")), sight{nil, 1, 2}},
		{"first of a greater epoch, one begun", row(nil, heads(1), first(1, "a"), piece(1, "b"), first(2, "c"), last(2, "d")), sight{nil, 1, 2}},
		{"on, of a greater epoch", row(nil, heads(1), first(1, "a"), piece(2, "b"), last(2, "c")), sight{nil, 1, 2}},
		{"an end of a greater epoch", row(nil, heads(1), both(1, "x"), first(1, "a"), last(2, "b"), both(2, "c")), sight{rec(1, "x"), 2, 2}},
		{"an end of an epoch behind a head of it", row(upTo(15), first(1, "a"), heads(2), last(2, "b"), both(2, "c")), sight{singles(1, 14), 15, 2}},
		{"on, none begun, behind a head", row(upTo(16), heads(1), piece(1, "a"), both(1, "b")), sight{singles(1, 15), 17, 1}},
		{"first, one begun ahead of a head", row(upTo(15), first(1, "a"), heads(1), first(1, "b"), last(1, "c")), sight{singles(1, 14), 15, 1}},
		{"both, one begun ahead of a head", row(upTo(14), first(1, "a"), piece(1, "b"), heads(1), both(1, "c"), both(1, "d")), sight{singles(1, 13), 14, 1}},
	})
}

// TestHeadsBetween tries records with a head between their pieces, and such as stand next to one (19.1).
func TestHeadsBetween(t *testing.T) {
	tryNamed(t, []named{
		{"over a head", row(upTo(15), first(1, "a"), heads(1), last(1, "b")), sight{append(singles(1, 14), seg.Rec{At: 15, Text: "ab"}), 18, 1}},
		{"over a head, then one", row(upTo(15), first(1, "a"), heads(1), last(1, "b"), both(1, "c")), sight{append(singles(1, 14), seg.Rec{At: 15, Text: "ab"}, seg.Rec{At: 18, Text: "c"}), 19, 1}},
		{"over a head, of four", row(upTo(14), first(1, "a"), piece(1, "b"), heads(1), piece(1, "c"), last(1, "d")), sight{append(singles(1, 13), seg.Rec{At: 14, Text: "abcd"}), 19, 1}},
		{"begun, then a head", row(upTo(15), first(1, "a"), heads(1)), sight{singles(1, 14), 15, 1}},
		{"begun, and on, then a head", row(upTo(14), first(1, "a"), piece(1, "b"), heads(1)), sight{singles(1, 13), 14, 1}},
		{"begun over a head", row(upTo(14), first(1, "a"), piece(1, "b"), heads(1), piece(1, "c")), sight{singles(1, 13), 14, 1}},
		{"begun ahead of no head", row(upTo(15), first(1, "a")), sight{singles(1, 14), 15, 1}},
		{"a head of a greater epoch between", row(upTo(15), first(1, "a"), heads(2), last(1, "b")), sight{singles(1, 14), 15, 2}},
		{"none begun, then a head", row(upTo(16), heads(1)), sight{singles(1, 15), 17, 1}},
		{"begun behind a head", row(upTo(16), heads(1), first(1, "a"), piece(1, "b")), sight{singles(1, 15), 17, 1}},
		{"ended behind a head", row(upTo(16), heads(1), first(1, "a"), last(1, "b")), sight{append(singles(1, 15), seg.Rec{At: 17, Text: "ab"}), 19, 1}},
	})
	scanned(t, 48, row(upTo(32), heads(1)), sight{singles(1, 31), 33, 1})
	scanned(t, 48, row(upTo(31), first(1, "a"), heads(1), last(1, "b")), sight{append(singles(1, 30), seg.Rec{At: 31, Text: "ab"}), 34, 1})
	scanned(t, 48, row(upTo(31), first(1, "a"), heads(1)), sight{singles(1, 30), 31, 1})
	scanned(t, 1024, upTo(1024), sight{singles(1, 1023), 1024, 1})
	scanned(t, 1024, row(upTo(1023), first(1, "a")), sight{singles(1, 1022), 1023, 1})
	scanned(t, 1024, row(upTo(1007), first(1, "a"), heads(1), last(1, "b")), sight{append(singles(1, 1006), seg.Rec{At: 1007, Text: "ab"}), 1010, 1})
}

// TestNoPage tries bytes that are no page, in all places (19.1).
func TestNoPage(t *testing.T) {
	var list []named
	for name, s := range noPages() {
		list = append(list,
			named{name + " first of all", row(nil, s, both(1, "a"), both(2, "b")), sight{nil, 0, 2}},
			named{name + " first of all, all else there", row(row(nil, s), upTo(32)[1:]...), sight{nil, 0, 1}},
			named{name + " behind a head", row(nil, heads(1), s, both(1, "b")), sight{nil, 1, 1}},
			named{name + " behind a record", row(nil, heads(1), both(1, "a"), s, both(1, "b")), sight{rec(1, "a"), 2, 1}},
			named{name + " in the midst", row(nil, heads(1), both(1, "a"), first(1, "b"), piece(1, "c"), s, last(1, "d")), sight{rec(1, "a"), 2, 1}},
			named{name + " behind a beginning", row(nil, heads(1), first(1, "b"), s, last(1, "d")), sight{nil, 1, 1}},
			named{name + " where a head should stand", row(upTo(16), s, single(1)), sight{singles(1, 15), 16, 1}},
			named{name + " for a head in the midst", row(upTo(15), first(1, "a"), s, last(1, "b")), sight{singles(1, 14), 15, 1}},
			named{name + " behind a head in the midst", row(upTo(15), first(1, "a"), heads(1), s, last(1, "b")), sight{singles(1, 14), 15, 1}},
			named{name + " behind a second head", row(upTo(16), heads(1), s, single(1)), sight{singles(1, 15), 17, 1}},
			named{name + " last of all", row(upTo(31), s), sight{singles(1, 30), 31, 1}},
		)
	}
	tryNamed(t, list)
}

// TestGreatest tries epochs of pages that don't stand in the chain, wherever they lie (19.1).
func TestGreatest(t *testing.T) {
	for _, epoch := range []uint32{0, 1, 2, 3, 255, 256, 1 << 16, 1 << 31, math.MaxUint32 - 1, math.MaxUint32} {
		greatest := max(epoch, 2)
		for name, s := range map[string]sector{
			"its number":     single(epoch),
			"another number": as(page.Page{Epoch: epoch, Number: 7, Kind: data, Last: true, Data: "a"}),
			"a head":         headed(epoch, "any"),
			"its head":       heads(epoch),
		} {
			for _, at := range []int{4, 15, 16, 17, 31, 32, 33, 46} {
				d := laid(t, 47, row(nil, heads(1), both(2, "a")))
				d.Write(at, s(at))
				want := sight{rec(1, "a"), 2, greatest}
				scans(t, d, want)
				opensAs(t, d, want)
				if t.Failed() {
					t.Fatalf("an epoch %d at %d, %s", epoch, at, name)
				}
			}
		}
		// Between lesser ones, and where nothing stands in the chain.
		scanned(t, 33, row(nil, both(1, "a"), both(epoch, "a"), both(2, "b")), sight{nil, 0, greatest})
	}
	for name, s := range noPages() {
		for _, at := range []int{2, 16, 31, 32, 46} {
			d := laid(t, 47, row(nil, heads(1), both(2, "a")))
			d.Write(at, s(at))
			scans(t, d, sight{rec(1, "a"), 2, 2})
			if t.Failed() {
				t.Fatalf("%s at %d", name, at)
			}
		}
	}
}

// TestBehindWhole holds that nothing stands in the chain behind the last whole segment (19.1).
func TestBehindWhole(t *testing.T) {
	for size := 32; size <= 70; size++ {
		n := size / span * span
		d := laid(t, size, upTo(size))
		scans(t, d, sight{singles(1, n-1), n, 1})
		opensAs(t, d, sight{singles(1, n-1), n, 1})
		// A record that would end there is begun, and no more.
		d = laid(t, size, row(upTo(n-1), first(1, "a")))
		if size > n {
			d.Write(n, heads(5)(n))
		}
		if size > n+1 {
			d.Write(n+1, last(1, "b")(n+1))
		}
		want := sight{singles(1, n-2), n - 1, 1}
		if size > n {
			want.greatest = 5
		}
		scans(t, d, want)
	}
}

// long answers sectors of a record of so many bytes, of pieces of 49, with heads between.
func long(size int) []sector {
	list := row(nil, heads(1))
	for left := size; left > 0; left -= room {
		if len(list)%span == 0 {
			list = append(list, heads(1))
		}
		p := page.Page{Epoch: 1, Kind: data, First: left == size, Last: left <= room, Data: strings.Repeat("m", min(left, room))}
		list = append(list, here(p))
	}
	return list
}

// TestMost tries records of as many bytes as there may be, and of more (19.1).
func TestMost(t *testing.T) {
	for _, c := range []struct {
		size int
		want sight
	}{
		{4095, sight{rec(1, strings.Repeat("m", 4095)), 90, 1}},
		{4096, sight{rec(1, strings.Repeat("m", 4096)), 90, 1}},
		{4097, sight{nil, 1, 1}},
		{4116, sight{nil, 1, 1}},
		{4117, sight{nil, 1, 1}},
	} {
		scanned(t, 96, long(c.size), c.want)
	}
	// A byte a page: the disk ends ahead of the record.
	list := row(nil, heads(1), first(1, "a"))
	for i := 2; i < 1024; i++ {
		if i%span == 0 {
			list = append(list, heads(1))
		} else {
			list = append(list, piece(1, "b"))
		}
	}
	scanned(t, 1024, list, sight{nil, 1, 1})
	list[1023] = last(1, "c")
	scanned(t, 1024, list, sight{rec(1, "a"+strings.Repeat("b", 958)+"c"), 1024, 1})
}

// kinds answers sectors of all kinds for rows: pages of two epochs, and bytes that are none.
func kinds() []sector {
	list := row(nil, raw(api.Page{}), headed(1, four(0)), headed(2, four(0)), headed(1, four(1)), headed(2, four(1)))
	for epoch := range uint32(2) {
		list = append(list, first(epoch+1, "a"), piece(epoch+1, "b"), last(epoch+1, "c"), both(epoch+1, "d"))
	}
	return list
}

// TestRows holds scans against the chapter's words, at all rows of a few sectors: from 0 on, and around a segment's begin (19.1).
func TestRows(t *testing.T) {
	list := kinds()
	for _, from := range []int{0, 14} {
		d := laid(t, 32, upTo(from))
		sectors := sectorsOf(t, d)
		for ways := range len(list) * len(list) * len(list) * len(list) {
			for i, rest := from, ways; i < from+4; i, rest = i+1, rest/len(list) {
				sectors[i] = list[rest%len(list)](i)
				d.Write(i, sectors[i])
			}
			scans(t, d, toldScan(sectors))
			if t.Failed() {
				t.Fatalf("from %d on: row %d", from, ways)
			}
		}
	}
}

// someSector answers a sector that mostly goes on with the chain, as a record is begun there or not.
func someSector(next func(int) int, i int, epoch uint32, begun bool) (sector, uint32, bool) {
	if i%span == 0 {
		return heads(epoch), epoch, begun
	}
	if !begun && next(20) == 0 {
		epoch += uint32(next(3))
	}
	s := text(1+next(room), next)
	ends := next(4) == 0
	p := page.Page{Epoch: epoch, Kind: data, First: !begun, Last: ends, Data: s}
	return here(p), epoch, !ends
}

// wrongSector answers a sector that mostly doesn't stand in the chain.
func wrongSector(next func(int) int, i int, epoch uint32) sector {
	p := page.Page{Epoch: epoch, Number: uint32(i), Kind: data, First: next(2) == 0, Last: next(2) == 0, Data: text(1+next(room), next)}
	switch next(7) {
	case 0:
		p.Number += uint32(next(3) - 1)
	case 1:
		p.Epoch -= uint32(next(2))
	case 2:
		p.Epoch += uint32(next(5))
	case 3:
		return headed(epoch, four(next(3)))
	case 4:
		return headed(epoch, four(i / span)[:1+next(4)])
	case 5:
		return raw(api.Page([]byte(text(64, next))))
	}
	return as(p)
}

// TestWalks holds scans against the chapter's words on long rows of mixed sectors (19.1, 19.3).
func TestWalks(t *testing.T) {
	next := mixed()
	sizes := []int{32, 33, 47, 48, 50, 64, 100, 160}
	for round := range 3000 {
		size := sizes[next(len(sizes))]
		list := make([]sector, size)
		epoch, begun := uint32(1+next(3)), false
		wrong := 1 + next(3*size)
		for i := range list {
			list[i], epoch, begun = someSector(next, i, epoch, begun)
			if next(wrong) == 0 {
				list[i] = wrongSector(next, i, epoch)
			}
		}
		d := laid(t, size, list)
		want := toldScan(sectorsOf(t, d))
		scans(t, d, want)
		opensAs(t, d, want)
		if t.Failed() {
			t.Fatalf("round %d, of %d sectors", round, size)
		}
	}
}
