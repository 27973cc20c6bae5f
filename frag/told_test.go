package frag_test

import (
	"slices"
	"strings"
	"testing"

	"spool/api"
	"spool/frag"
	"spool/page"
)

// The chapters' numbers, apart from the program's.
const (
	room       = 49
	most       = 4096
	head, data = 1, 2
)

// told is a joiner, word by word as the chapter tells it: what is begun is kept as the pages themselves.
type told struct {
	begun []page.Page
}

// toldRight tells whether a page is right, by chapter 17's words.
func toldRight(p page.Page) bool {
	marked := p.First || p.Last
	return len(p.Data) >= 1 && len(p.Data) <= room && (p.Kind == data || p.Kind == head && !marked)
}

// joined answers the data of pages, one behind the other.
func joined(list []page.Page) string {
	s := ""
	for _, p := range list {
		s += p.Data
	}
	return s
}

func (j *told) Begun() bool { return j.begun != nil }

func (j *told) Take(p page.Page) (string, bool, api.Errno) {
	if !toldRight(p) {
		return "", false, api.ErrArg
	}
	if p.Kind == head {
		return "", false, api.OK
	}
	begins := p.First && j.begun == nil
	goesOn := !p.First && j.begun != nil && p.Epoch == j.begun[0].Epoch
	if !begins && !goesOn {
		j.begun = nil
		return "", false, api.ErrForm
	}
	row := append(slices.Clone(j.begun), p)
	j.begun = nil
	text := joined(row)
	if len(text) > most {
		return "", false, api.ErrForm
	}
	if p.Last {
		return text, true, api.OK
	}
	j.begun = row
	return "", false, api.OK
}

// asTold hands a page to a joiner and to one as told, and tells whether they answer alike; what they answered otherwise is told.
func asTold(t *testing.T, j *frag.Joiner, like *told, p page.Page) bool {
	t.Helper()
	wantRec, wantEnded, wantErr := like.Take(p)
	rec, ended, err := j.Take(p)
	if rec != wantRec || ended != wantEnded || err != wantErr || j.Begun() != like.Begun() {
		t.Errorf("Take(%+v) = %q, %v, %d, then Begun = %v; want %q, %v, %d, then %v",
			p, rec, ended, err, j.Begun(), wantRec, wantEnded, wantErr, like.Begun())
		return false
	}
	return true
}

// steps answers pages of all kinds and marks, of two epochs, each of other data, and some that aren't right.
func steps() []page.Page {
	list := []page.Page{
		{},
		{Epoch: 1, Kind: data, First: true, Data: strings.Repeat("w", room+1)},
		{Epoch: 1, Kind: 3, Last: true, Data: "v"},
	}
	letter := 'a'
	for epoch := range uint32(2) {
		list = append(list, page.Page{Epoch: epoch, Number: 16, Kind: head, Data: "hhhh"})
		for marks := range 4 {
			list = append(list, page.Page{
				Epoch: epoch, Kind: data, First: marks%2 == 1, Last: marks/2 == 1,
				Data: strings.Repeat(string(letter), 1+marks),
			})
			letter++
		}
	}
	return list
}

// TestRows holds joiners against one as told, at all rows of up to five steps (18.2).
func TestRows(t *testing.T) {
	list := steps()
	for row := range rows(len(list), 5) {
		j, like := &frag.Joiner{}, &told{}
		for at, step := range row {
			if !asTold(t, j, like, list[step]) {
				t.Fatalf("at step %d of the row %v of %+v", at, row, list)
			}
		}
	}
}

// rows goes through all rows of just n numbers below base.
func rows(base, n int) func(yield func([]int) bool) {
	return func(yield func([]int) bool) {
		row := make([]int, n)
		for {
			if !yield(row) {
				return
			}
			at := 0
			for at < n && row[at] == base-1 {
				row[at] = 0
				at++
			}
			if at == n {
				return
			}
			row[at]++
		}
	}
}

// mixed answers a function of numbers that seem to have no order, the same ones each time.
func mixed() func() int {
	x := uint64(88172645463325252)
	return func() int {
		x ^= x << 13
		x ^= x >> 7
		x ^= x << 17
		return int(x >> 33)
	}
}

// text answers n mixed bytes, the least and the greatest among them if there are more than a few.
func text(n int, next func() int) string {
	b := make([]byte, n)
	for i := range b {
		switch x := next(); x % 8 {
		case 0:
			b[i] = 0
		case 1:
			b[i] = 255
		default:
			b[i] = byte(x >> 8)
		}
	}
	return string(b)
}

// walk answers a page for a long walk: most of them go on with a record, of all lengths or of one.
func walk(next func() int, length int, begun bool) page.Page {
	if length == 0 {
		length = 1 + next()%room
	}
	p := page.Page{Epoch: 7, Number: uint32(next()), Kind: data, First: !begun, Data: text(length, next)}
	switch next() % 400 {
	case 0:
		p.Epoch++
	case 1:
		p.First = !p.First
	case 2:
		p.Data += strings.Repeat("x", room)
	case 3:
		p.Kind = 3
	}
	switch next() % 90 {
	case 0:
		p.Last = true
	case 1, 2:
		p.Kind, p.First, p.Last = head, false, false
	}
	return p
}

// TestWalks holds joiners against one as told, on long walks, with records up to the greatest and beyond (18.2).
func TestWalks(t *testing.T) {
	next := mixed()
	for _, length := range []int{0, 1, 16, 32, 47, 48, 49} {
		j, like := &frag.Joiner{}, &told{}
		for at := range 6000 {
			if !asTold(t, j, like, walk(next, length, like.Begun())) {
				t.Fatalf("at step %d, of data of %d bytes", at, length)
			}
		}
	}
}
