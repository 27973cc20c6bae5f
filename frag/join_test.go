package frag_test

import (
	"math"
	"slices"
	"strings"
	"testing"

	"spool/api"
	"spool/frag"
	"spool/page"
)

// piece answers a page of data without marks.
func piece(epoch uint32, s string) page.Page {
	return page.Page{Epoch: epoch, Kind: data, Data: s}
}

// first answers a page of data marked first.
func first(epoch uint32, s string) page.Page {
	return page.Page{Epoch: epoch, Kind: data, First: true, Data: s}
}

// last answers a page of data marked last.
func last(epoch uint32, s string) page.Page {
	return page.Page{Epoch: epoch, Kind: data, Last: true, Data: s}
}

// both answers a page of data of both marks.
func both(epoch uint32, s string) page.Page {
	return page.Page{Epoch: epoch, Kind: data, First: true, Last: true, Data: s}
}

// headOf answers a segment's head.
func headOf(epoch uint32) page.Page {
	return page.Page{Epoch: epoch, Number: 16, Kind: head, Data: "\x01\x00\x00\x00"}
}

// wrong answers pages that aren't right, of all marks, some of which would be refused, others taken, if they were.
func wrong() []page.Page {
	var list []page.Page
	for marks := range 4 {
		first, last := marks%2 == 1, marks/2 == 1
		for _, epoch := range []uint32{0, 1, 2} {
			for _, kind := range []int{math.MinInt, -1, 0, 3, 255, 257, 258, 1<<32 + 1, 1<<32 + 2, math.MaxInt} {
				list = append(list, page.Page{Epoch: epoch, Kind: kind, First: first, Last: last, Data: "x"})
			}
			for _, n := range []int{0, 50, 98, 257, 4096, 4097} {
				for _, kind := range []int{head, data} {
					list = append(list, page.Page{Epoch: epoch, Kind: kind, First: first, Last: last, Data: strings.Repeat("y", n)})
				}
			}
			if first || last {
				list = append(list, page.Page{Epoch: epoch, Kind: head, First: first, Last: last, Data: "\x01\x00\x00\x00"})
			}
		}
	}
	return list
}

// step is a page, what is to be answered of it, and whether a record is begun behind it.
type step struct {
	p     page.Page
	rec   string
	ended bool
	err   api.Errno
	begun bool
}

// goes answers a step by which a record is begun, or goes on.
func goes(p page.Page) step { return step{p: p, begun: true} }

// by answers a step that goes by where no record is begun.
func by(p page.Page) step { return step{p: p} }

// ends answers a step that ends a record.
func ends(p page.Page, rec string) step { return step{p: p, rec: rec, ended: true} }

// refused answers a step that is refused.
func refused(p page.Page) step { return step{p: p, err: api.ErrForm} }

// takes holds what a joiner answers of a page against a step.
func takes(t *testing.T, j *frag.Joiner, s step) {
	t.Helper()
	rec, ended, err := j.Take(s.p)
	if rec != s.rec || ended != s.ended || err != s.err || j.Begun() != s.begun {
		t.Fatalf("Take(%+v) = %q, %v, %d, then Begun = %v; want %q, %v, %d, then %v",
			s.p, rec, ended, err, j.Begun(), s.rec, s.ended, s.err, s.begun)
	}
}

// all holds a joiner against steps, one behind the other.
func all(t *testing.T, j *frag.Joiner, row []step) {
	t.Helper()
	for _, s := range row {
		takes(t, j, s)
	}
}

// namedRows answers rows of steps, worked out apart, by what they try.
func namedRows() map[string][]step {
	return map[string][]step{
		"one piece":                  {ends(both(1, "abc"), "abc")},
		"two pieces":                 {goes(first(1, "ab")), ends(last(1, "c"), "abc")},
		"three pieces":               {goes(first(1, "ab")), goes(piece(1, "cd")), ends(last(1, "e"), "abcde")},
		"one record and another":     {goes(first(1, "a")), ends(last(1, "b"), "ab"), goes(first(1, "c")), ends(last(1, "d"), "cd")},
		"another of another epoch":   {goes(first(2, "a")), ends(last(2, "b"), "ab"), goes(first(1, "c")), ends(last(1, "d"), "cd")},
		"one piece each":             {ends(both(1, "a"), "a"), ends(both(1, "b"), "b"), ends(both(3, "b"), "b"), ends(both(2, "c"), "c")},
		"first where one is begun":   {goes(first(1, "a")), refused(first(1, "b")), refused(last(1, "c"))},
		"first of another epoch":     {goes(first(1, "a")), refused(first(2, "b")), refused(last(2, "c")), refused(last(1, "c"))},
		"both where one is begun":    {goes(first(1, "a")), refused(both(1, "b")), refused(last(1, "c"))},
		"both of another epoch":      {goes(first(1, "a")), goes(piece(1, "b")), refused(both(2, "c")), refused(piece(1, "d"))},
		"none begun":                 {refused(piece(1, "a")), refused(piece(1, "b"))},
		"none begun to end":          {refused(last(1, "a")), refused(last(1, "b"))},
		"none begun of epoch 0":      {refused(piece(0, "a")), refused(last(0, "b")), ends(both(0, "c"), "c"), refused(last(0, "d"))},
		"nothing behind the end":     {goes(first(1, "a")), ends(last(1, "b"), "ab"), refused(piece(1, "c")), refused(last(1, "d"))},
		"nothing behind one piece":   {ends(both(1, "a"), "a"), refused(piece(1, "b")), ends(both(1, "c"), "c"), refused(last(1, "d"))},
		"another epoch":              {goes(first(1, "a")), refused(piece(2, "b")), refused(piece(1, "c"))},
		"another epoch to end":       {goes(first(1, "a")), refused(last(2, "b")), refused(last(1, "c"))},
		"an epoch ahead":             {goes(first(2, "a")), goes(piece(2, "b")), refused(piece(1, "c")), refused(last(2, "d"))},
		"begun anew behind first":    {goes(first(1, "a")), refused(first(1, "b")), goes(first(1, "c")), ends(last(1, "d"), "cd")},
		"begun anew behind both":     {goes(first(1, "a")), refused(both(1, "b")), ends(both(1, "c"), "c")},
		"begun anew behind an epoch": {goes(first(1, "a")), refused(piece(2, "b")), goes(first(2, "c")), ends(last(2, "d"), "cd")},
		"begun anew behind none":     {refused(piece(1, "a")), goes(first(1, "b")), goes(piece(1, "c")), ends(last(1, "d"), "bcd")},
		"a head ahead":               {by(headOf(1)), by(headOf(2)), goes(first(1, "a")), ends(last(1, "b"), "ab")},
		"a head in the midst":        {goes(first(1, "a")), goes(headOf(1)), goes(piece(1, "b")), goes(headOf(1)), ends(last(1, "c"), "abc")},
		"another epoch's head":       {goes(first(1, "a")), goes(headOf(2)), ends(last(1, "b"), "ab")},
		"epoch of a head":            {goes(first(1, "a")), goes(headOf(2)), refused(last(2, "b"))},
		"epoch 0's head":             {goes(first(1, "a")), goes(headOf(0)), goes(piece(1, "b")), ends(last(1, "c"), "abc")},
		"a head behind":              {ends(both(1, "a"), "a"), by(headOf(1)), by(headOf(2)), ends(both(1, "b"), "b")},
		"a head behind a refusal":    {goes(first(1, "a")), refused(first(1, "b")), by(headOf(1)), refused(last(1, "c"))},
		"a head, none begun":         {by(headOf(1)), refused(piece(1, "a")), by(headOf(1)), refused(last(1, "b"))},
		"bytes of 0 and of 255":      {goes(first(1, "\x00")), goes(piece(1, "\xff\x00")), ends(last(1, "\x00\xff\x00"), "\x00\xff\x00\x00\xff\x00")},
		"fewer bytes than there are": {goes(first(1, strings.Repeat("a", 48))), goes(piece(1, "b")), ends(last(1, strings.Repeat("c", 49)), strings.Repeat("a", 48)+"b"+strings.Repeat("c", 49))},
		"pieces of one text":         {goes(first(1, "a")), goes(piece(1, "a")), goes(piece(1, "a")), ends(last(1, "a"), "aaaa")},
	}
}

// TestNamedRows tries pages one behind the other, by joiners that took nothing (18.2).
func TestNamedRows(t *testing.T) {
	for name, row := range namedRows() {
		t.Run(name, func(t *testing.T) {
			all(t, &frag.Joiner{}, row)
		})
	}
}

// TestBehindOthers tries all of these rows by joiners that took each of them, whatever is begun behind it being ended first (18.2).
func TestBehindOthers(t *testing.T) {
	rows := namedRows()
	for ahead, row := range rows {
		for behind, next := range rows {
			t.Run(ahead+", then "+behind, func(t *testing.T) {
				j := &frag.Joiner{}
				all(t, j, row)
				takes(t, j, refused(piece(math.MaxUint32, "z")))
				all(t, j, next)
			})
		}
	}
}

// TestEpochs holds that a record goes on with pages of its own epoch alone, whatever epoch it is (18.2).
func TestEpochs(t *testing.T) {
	for _, epoch := range epochs() {
		all(t, &frag.Joiner{}, []step{goes(first(epoch, "a")), goes(piece(epoch, "b")), ends(last(epoch, "c"), "abc"), ends(both(epoch, "d"), "d")})
		for _, other := range append(epochs(), epoch+1, epoch-1, epoch+1<<8, epoch+1<<16, epoch^1<<31) {
			if other != epoch {
				all(t, &frag.Joiner{}, []step{goes(first(epoch, "a")), goes(headOf(other)), refused(piece(other, "b")), refused(last(epoch, "c"))})
				all(t, &frag.Joiner{}, []step{goes(first(epoch, "a")), goes(headOf(other)), refused(last(other, "b")), refused(piece(other, "c"))})
				all(t, &frag.Joiner{}, []step{goes(first(epoch, "a")), goes(headOf(other)), goes(piece(epoch, "b")), ends(last(epoch, "c"), "abc")})
			}
		}
	}
}

// TestNumbers holds that a page's number is no matter (18.2).
func TestNumbers(t *testing.T) {
	for _, numbers := range [][3]uint32{{0, 0, 0}, {1, 2, 3}, {3, 2, 1}, {7, 1023, 7}, {math.MaxUint32, 0, math.MaxUint32}} {
		row := []step{goes(first(1, "a")), goes(piece(1, "b")), ends(last(1, "c"), "abc")}
		for i := range row {
			row[i].p.Number = numbers[i]
		}
		all(t, &frag.Joiner{}, row)
	}
}

// begins answers a joiner that has begun a record of n bytes, of pieces of so many, in epoch 1; and these bytes.
func begins(t *testing.T, n, each int) (*frag.Joiner, string) {
	t.Helper()
	rec := records(n)[3]
	j := &frag.Joiner{}
	for at := 0; at < n; at += each {
		p := piece(1, rec[at:min(at+each, n)])
		p.First = at == 0
		takes(t, j, goes(p))
	}
	return j, rec
}

// TestNotRight tries pages that aren't right, ahead of a record and in the midst of one: nothing is changed by them (18.2).
func TestNotRight(t *testing.T) {
	for _, w := range wrong() {
		j := &frag.Joiner{}
		takes(t, j, step{p: w, err: api.ErrArg})
		takes(t, j, refused(piece(1, "a")))
		takes(t, j, step{p: w, err: api.ErrArg})
		all(t, j, []step{goes(first(1, "a")), ends(last(1, "b"), "ab")})
		takes(t, j, step{p: w, err: api.ErrArg})
		takes(t, j, goes(first(1, "c")))
		takes(t, j, step{p: w, err: api.ErrArg, begun: true})
		takes(t, j, goes(piece(1, "d")))
		takes(t, j, step{p: w, err: api.ErrArg, begun: true})
		takes(t, j, step{p: w, err: api.ErrArg, begun: true})
		takes(t, j, ends(last(1, "e"), "cde"))
		takes(t, j, goes(first(1, "f")))
		takes(t, j, step{p: w, err: api.ErrArg, begun: true})
		takes(t, j, refused(last(2, "g")))
	}
}

// TestNotRightAtMost tries pages that aren't right where a record has as many bytes as it may have, or nearly (18.2).
func TestNotRightAtMost(t *testing.T) {
	for _, w := range wrong() {
		j, rec := begins(t, most-1, room)
		takes(t, j, step{p: w, err: api.ErrArg, begun: true})
		takes(t, j, ends(last(1, "z"), rec+"z"))
	}
	j, _ := begins(t, most, room)
	for _, w := range wrong() {
		takes(t, j, step{p: w, err: api.ErrArg, begun: true})
	}
	takes(t, j, refused(last(1, "z")))
}

// TestMost tries records of as many bytes as there may be, and of more, of pieces of several lengths (18.2).
func TestMost(t *testing.T) {
	for _, each := range []int{1, 2, 7, 16, 48, 49} {
		for _, n := range []int{most - room, most - room + 1, most - 48, most - 2, most - 1, most} {
			for more := 1; more <= room; more++ {
				s := strings.Repeat("z", more)
				j, rec := begins(t, n, each)
				takes(t, j, goes(headOf(3)))
				if n+more > most {
					takes(t, j, refused(last(1, s)))
				} else {
					takes(t, j, ends(last(1, s), rec+s))
				}
				if each == 1 && more > 2 && more < room {
					continue
				}
				j, _ = begins(t, n, each)
				if n+more > most {
					all(t, j, []step{refused(piece(1, s)), refused(last(1, "y"))})
				} else {
					takes(t, j, goes(piece(1, s)))
				}
			}
		}
	}
}

// TestBehindMost holds that behind a record of as many bytes as there may be, told or dropped, there may be another one (18.2).
func TestBehindMost(t *testing.T) {
	j := &frag.Joiner{}
	for range 3 {
		rec := records(most)[3]
		for i, p := range cut(t, 2, rec) {
			if i < 83 {
				takes(t, j, goes(p))
			} else {
				takes(t, j, ends(p, rec))
			}
		}
		for i, p := range cut(t, 1, rec) {
			p.Last = false
			takes(t, j, goes(p))
			if i == 40 {
				takes(t, j, goes(headOf(1)))
			}
		}
		takes(t, j, refused(piece(1, "z")))
	}
	all(t, j, []step{goes(first(1, "a")), ends(last(1, "b"), "ab")})
}

// TestBytes joins a record of as many bytes as there may be, a byte a page (18.2).
func TestBytes(t *testing.T) {
	j := &frag.Joiner{}
	rec := records(most)[4]
	for i := range most - 1 {
		p := piece(1, rec[i:i+1])
		p.First = i == 0
		takes(t, j, goes(p))
	}
	takes(t, j, ends(last(1, rec[most-1:]), rec))
}

// TestNil tries a joiner that is nil (18.2).
func TestNil(t *testing.T) {
	var j *frag.Joiner
	for _, p := range slices.Concat(steps(), wrong(), cut(t, 1, records(99)[3])) {
		takes(t, j, step{p: p, err: api.ErrArg})
	}
	if j.Begun() {
		t.Error("a nil joiner has begun a record")
	}
}

// TestZero holds that nothing is begun by a joiner that took nothing (18.2).
func TestZero(t *testing.T) {
	var j frag.Joiner
	if j.Begun() || new(frag.Joiner).Begun() {
		t.Error("a zero joiner has begun a record")
	}
	takes(t, &j, ends(both(1, "a"), "a"))
}

// TestApart holds that two joiners have nothing in common: each of two rows is answered as it is alone, whatever the other joiner takes between (18.2).
func TestApart(t *testing.T) {
	rows := namedRows()
	for one, row := range rows {
		for other, next := range rows {
			t.Run(one+", beside "+other, func(t *testing.T) {
				j, k := &frag.Joiner{}, &frag.Joiner{}
				for i := range max(len(row), len(next)) {
					if i < len(row) {
						takes(t, j, row[i])
					}
					if i < len(next) {
						takes(t, k, next[i])
					}
				}
			})
		}
	}
}

// TestStays holds that pages that were handed in, and records that were handed out, stay as they are (18.2).
func TestStays(t *testing.T) {
	j := &frag.Joiner{}
	var told []string
	for round := range 20 {
		for _, n := range edges() {
			list := cut(t, 1, strings.Repeat(string('a'+rune(round)), n))
			was := slices.Clone(list)
			for _, p := range list {
				if rec, ended, _ := j.Take(p); ended {
					told = append(told, rec)
				}
				j.Take(headOf(1))
			}
			j.Take(first(1, "zzz"))
			j.Take(first(1, "zzz"))
			if !slices.Equal(list, was) {
				t.Errorf("of %d bytes: pages handed in changed to %+v", n, list)
			}
		}
	}
	at := 0
	for round := range 20 {
		for _, n := range edges() {
			if at >= len(told) || told[at] != strings.Repeat(string('a'+rune(round)), n) {
				t.Fatalf("of %d bytes: round %d isn't told, or changed", n, round)
			}
			at++
		}
	}
}

// thereAndBack holds that a record's pieces are told as the record, at the last one and not ahead of it.
func thereAndBack(t *testing.T, j *frag.Joiner, epoch uint32, rec string) {
	t.Helper()
	list := cut(t, epoch, rec)
	for i, p := range list {
		if i < len(list)-1 {
			takes(t, j, goes(p))
		} else {
			takes(t, j, ends(p, rec))
		}
	}
}

// TestThereAndBack cuts and joins records of all lengths (18.3).
func TestThereAndBack(t *testing.T) {
	for _, n := range edges() {
		for _, epoch := range epochs() {
			for _, rec := range records(n) {
				thereAndBack(t, &frag.Joiner{}, epoch, rec)
			}
		}
	}
	j := &frag.Joiner{}
	for n := 1; n <= most; n++ {
		thereAndBack(t, j, uint32(n*n), records(n)[3])
	}
	for n := most; n >= 1; n -= 7 {
		thereAndBack(t, j, uint32(n), records(n)[4])
	}
}

// TestOverPages cuts records, lays their pieces as pages among heads, reads them, and joins them (18.3).
func TestOverPages(t *testing.T) {
	j := &frag.Joiner{}
	number := uint32(0)
	over := func(p page.Page) page.Page {
		p.Number = number
		number++
		b, err := page.Lay(p)
		if err != api.OK {
			t.Fatalf("Lay(%+v) = %d", p, err)
		}
		p, err = page.Read(b)
		if err != api.OK {
			t.Fatalf("Read(%x) = %d", b, err)
		}
		return p
	}
	for _, n := range edges() {
		for _, rec := range records(n) {
			list := cut(t, 9, rec)
			for i, p := range list {
				if number%16 == 0 {
					takes(t, j, step{p: over(page.Page{Epoch: 9, Kind: head, Data: "\x00\x00\x00\x00"}), begun: i > 0})
				}
				if i < len(list)-1 {
					takes(t, j, goes(over(p)))
				} else {
					takes(t, j, ends(over(p), rec))
				}
			}
		}
	}
}
