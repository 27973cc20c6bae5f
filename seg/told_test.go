package seg_test

import (
	"slices"
	"testing"

	"spool/api"
	"spool/disk"
	"spool/page"
	"spool/seg"
)

// The chapters' numbers, apart from the program's.
const (
	span       = 16
	room       = 49
	most       = 4096
	head, data = 1, 2
)

// four answers a number's four bytes, the lowest first.
func four(x int) string {
	return string([]byte{byte(x), byte(x >> 8), byte(x >> 16), byte(x >> 24)})
}

// joined answers the data of the pages of data, one behind the other.
func joined(list []page.Page) string {
	s := ""
	for _, p := range list {
		if p.Kind == data {
			s += p.Data
		}
	}
	return s
}

// begunAt answers where the record begins that is begun behind pages that stand in the chain, or -1: it is looked for from behind.
func begunAt(chain []page.Page) int {
	for i := len(chain) - 1; i >= 0; i-- {
		switch p := chain[i]; {
		case p.Kind == head:
		case p.Last:
			return -1
		case p.First:
			return i
		}
	}
	return -1
}

// fits tells whether a joiner takes a page of data behind pages that stand in the chain.
func fits(chain []page.Page, p page.Page) bool {
	at := begunAt(chain)
	if at < 0 {
		return p.First
	}
	return !p.First && p.Epoch == chain[at].Epoch && len(joined(chain[at:]))+len(p.Data) <= most
}

// stands tells whether the page of the sector behind pages that stand in the chain stands there too, by the chapter's words.
func stands(chain []page.Page, p page.Page) bool {
	i := len(chain)
	switch {
	case p.Number != uint32(i), i > 0 && p.Epoch < chain[i-1].Epoch:
		return false
	case i%span == 0:
		return p.Kind == head && p.Data == four(i/span)
	}
	return p.Kind == data && fits(chain, p)
}

// sight is what a scan answers beside its error.
type sight struct {
	recs     []seg.Rec
	next     int
	greatest uint32
}

func (s sight) equal(other sight) bool {
	return slices.Equal(s.recs, other.recs) && s.next == other.next && s.greatest == other.greatest
}

// toldChain answers the pages that stand in the chain.
func toldChain(sectors []api.Page) []page.Page {
	var chain []page.Page
	for _, b := range sectors[:len(sectors)-len(sectors)%span] {
		p, err := page.Read(b)
		if err != api.OK || !stands(chain, p) {
			break
		}
		chain = append(chain, p)
	}
	return chain
}

// toldScan answers what a scan of these sectors is to answer, by the chapter's words.
func toldScan(sectors []api.Page) sight {
	chain := toldChain(sectors)
	s := sight{next: len(chain)}
	if at := begunAt(chain); at >= 0 {
		s.next = at
	}
	for i, p := range chain {
		if !p.Last {
			continue
		}
		at := i
		if !p.First {
			at = begunAt(chain[:i])
		}
		s.recs = append(s.recs, seg.Rec{At: at, Text: joined(chain[at : i+1])})
	}
	for _, b := range sectors {
		if p, err := page.Read(b); err == api.OK && p.Epoch > s.greatest {
			s.greatest = p.Epoch
		}
	}
	return s
}

// toldPages answers the pages that a record takes at the next page, one by one.
func toldPages(epoch uint32, next int, rec string) []page.Page {
	var list []page.Page
	for left := rec; left != ""; {
		at := next + len(list)
		p := page.Page{Epoch: epoch, Number: uint32(at), Kind: head, Data: four(at / span)}
		if at%span != 0 {
			n := min(len(left), room)
			p = page.Page{Epoch: epoch, Number: uint32(at), Kind: data, First: len(left) == len(rec), Last: n == len(left), Data: left[:n]}
			left = left[n:]
		}
		list = append(list, p)
	}
	return list
}

// told is a log that is open, word by word as the chapter tells it.
type told struct {
	d      *disk.Disk
	epoch  uint32
	next   int
	frozen bool
}

// toldOpen opens the log of a disk that is up.
func toldOpen(t *testing.T, d *disk.Disk) (*told, []seg.Rec) {
	t.Helper()
	s := toldScan(sectorsOf(t, d))
	return &told{d, s.greatest + 1, s.next, s.greatest == 1<<32-1}, s.recs
}

func (l *told) Append(rec string) (int, api.Errno) {
	if len(rec) < 1 || len(rec) > most {
		return 0, api.ErrSize
	}
	if l.frozen {
		return 0, api.ErrState
	}
	list := toldPages(l.epoch, l.next, rec)
	if l.next+len(list) > l.d.Size()-l.d.Size()%span {
		return 0, api.ErrFull
	}
	at := -1
	for _, p := range list {
		b, _ := page.Lay(p)
		if err := l.d.Write(int(p.Number), b); err != api.OK {
			l.frozen = true
			return 0, err
		}
		if p.First {
			at = int(p.Number)
		}
	}
	l.next += len(list)
	return at, api.OK
}

func (l *told) Sync() api.Errno {
	if l.frozen {
		return api.ErrState
	}
	err := l.d.Sync()
	if err != api.OK {
		l.frozen = true
	}
	return err
}

func (l *told) Next() int    { return l.next }
func (l *told) Frozen() bool { return l.frozen }

// sectorsOf answers all sectors of a disk that is up.
func sectorsOf(t *testing.T, d *disk.Disk) []api.Page {
	t.Helper()
	list := make([]api.Page, d.Size())
	for i := range list {
		b, err := d.Read(i)
		if err != api.OK {
			t.Fatalf("Read(%d) = %d", i, err)
		}
		list[i] = b
	}
	return list
}

// fresh answers a new disk.
func fresh(t *testing.T, sectors int) *disk.Disk {
	t.Helper()
	d, err := disk.New(sectors)
	if err != api.OK {
		t.Fatalf("New(%d) = %d", sectors, err)
	}
	return d
}

// open opens the log of a disk whose log may be opened.
func open(t *testing.T, d *disk.Disk) (*seg.Log, []seg.Rec) {
	t.Helper()
	l, recs, err := seg.Open(d)
	if l == nil || err != api.OK {
		t.Fatalf("Open = %v, %v, %d", l, recs, err)
	}
	return l, recs
}

// add appends records to a log that takes them, and answers them with the pages that were told.
func add(t *testing.T, l *seg.Log, recs ...string) []seg.Rec {
	t.Helper()
	var list []seg.Rec
	for _, rec := range recs {
		at, err := l.Append(rec)
		if err != api.OK {
			t.Fatalf("Append of %d bytes at %d = %d, %d", len(rec), l.Next(), at, err)
		}
		list = append(list, seg.Rec{At: at, Text: rec})
	}
	return list
}

// makeSure syncs a log.
func makeSure(t *testing.T, l *seg.Log) {
	t.Helper()
	if err := l.Sync(); err != api.OK {
		t.Fatalf("Sync = %d", err)
	}
}

// scans holds what a scan answers.
func scans(t *testing.T, d *disk.Disk, want sight) {
	t.Helper()
	recs, next, greatest, err := seg.Scan(d)
	if got := (sight{recs, next, greatest}); !got.equal(want) || err != api.OK {
		t.Errorf("Scan = %+v, %d, want %+v", got, err, want)
	}
}

// mixed answers a row of numbers without an order to be seen, each below n, the same ones each time.
func mixed() func(n int) int {
	x := uint64(88172645463325252)
	return func(n int) int {
		x ^= x << 13
		x ^= x >> 7
		x ^= x << 17
		return int(x >> 20 % uint64(n))
	}
}

// text answers n mixed bytes.
func text(n int, next func(int) int) string {
	b := make([]byte, n)
	for i := range b {
		b[i] = byte(next(256))
	}
	return string(b)
}

// placed answers n bytes each of which hangs on its place and on x.
func placed(n, x int) string {
	b := make([]byte, n)
	for i := range b {
		b[i] = byte(i + i>>8*31 + x*37)
	}
	return string(b)
}
