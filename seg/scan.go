package seg

import (
	"spool/api"
	"spool/disk"
	"spool/frag"
	"spool/page"
)

// chain is what a scan has met so far of the pages that stand in the chain.
type chain struct {
	joiner frag.Joiner
	recs   []Rec
	next   int    // behind them, or where the record begins that is begun
	epoch  uint32 // of the last one
}

// Scan scans a disk: it answers the log's records, the next page, and the greatest epoch. It answers ErrArg if the disk is too small for a log, or ErrDown.
func Scan(d *disk.Disk) ([]Rec, int, uint32, api.Errno) {
	if d.Size() < fewest {
		return nil, 0, 0, api.ErrArg
	}
	var c chain
	greatest := uint32(0)
	goesOn := true
	for i := range d.Size() {
		b, err := d.Read(i)
		if err != api.OK {
			return nil, 0, 0, err
		}
		p, err := page.Read(b)
		if err == api.OK {
			// Behind the chain's end too: what is appended over it must be of an epoch beyond all that lies there.
			greatest = max(greatest, p.Epoch)
		}
		goesOn = goesOn && err == api.OK && i < whole(d) && c.takes(i, p)
	}
	return c.recs, c.next, greatest, api.OK
}

// takes takes the page of a sector into the chain, or tells that it doesn't stand there.
func (c *chain) takes(i int, p page.Page) bool {
	if !placed(i, p) || p.Epoch < c.epoch {
		return false
	}
	rec, ended, err := c.joiner.Take(p)
	if err != api.OK {
		return false
	}
	c.epoch = p.Epoch
	if ended {
		// The next page stayed where this record begins, as it goes on only while none is begun.
		c.recs = append(c.recs, Rec{At: c.next, Text: rec})
	}
	begun := (*frag.Joiner).Begun
	if !begun(&c.joiner) {
		c.next = i + 1
	}
	return true
}

// placed tells whether a page has the number and the kind of its sector, and a head its data.
func placed(i int, p page.Page) bool {
	if p.Number != uint32(i) {
		return false
	}
	if leads(i) {
		return p.Kind == headKind && p.Data == segment(i)
	}
	return p.Kind == dataKind
}
