package page_test

import (
	"encoding/binary"
	"math"
	"strings"

	"spool/api"
	"spool/page"
)

// The chapter's numbers, apart from the program's.
const (
	room              = 49
	epochAt, numberAt = 4, 8
	kindAt, marksAt   = 12, 13
	countAt, dataAt   = 14, 15
)

// toldSum answers the sum of the bytes from 4 on, bit by bit, as chapter 2 tells it.
func toldSum(b api.Page) uint32 {
	r := uint32(math.MaxUint32)
	for _, x := range b[4:] {
		for i := range 8 {
			low := r&1 ^ uint32(x)>>i&1
			r /= 2
			if low == 1 {
				r ^= 0x82f63b78
			}
		}
	}
	return r ^ math.MaxUint32
}

// summed answers b with the sum that its other bytes have.
func summed(b api.Page) api.Page {
	binary.LittleEndian.PutUint32(b[:], toldSum(b))
	return b
}

// toldRight tells whether a page is right, by the chapter's words.
func toldRight(p page.Page) bool {
	marked := p.First || p.Last
	return len(p.Data) >= 1 && len(p.Data) <= room && (p.Kind == 2 || p.Kind == 1 && !marked)
}

// toldMarks answers the byte of a page's marks.
func toldMarks(p page.Page) byte {
	switch {
	case p.First && p.Last:
		return 3
	case p.Last:
		return 2
	case p.First:
		return 1
	}
	return 0
}

// toldLay answers a right page's bytes, part by part, as the chapter's head tells them.
func toldLay(p page.Page) api.Page {
	list := binary.LittleEndian.AppendUint32(make([]byte, 4), p.Epoch)
	list = binary.LittleEndian.AppendUint32(list, p.Number)
	list = append(list, byte(p.Kind), toldMarks(p), byte(len(p.Data)))
	list = append(list, p.Data...)
	return summed(api.Page(append(list, make([]byte, 64-len(list))...)))
}

// toldForm tells whether bytes are of a page's form, whatever their sum.
func toldForm(b api.Page) bool {
	kind, marks, count := b[kindAt], b[marksAt], int(b[countAt])
	if kind != 1 && kind != 2 || marks > 3 || kind == 1 && marks != 0 || count < 1 || count > room {
		return false
	}
	for _, x := range b[dataAt+count:] {
		if x != 0 {
			return false
		}
	}
	return true
}

// toldRead answers what Read is to answer, by the chapter's words.
func toldRead(b api.Page) (page.Page, api.Errno) {
	if binary.LittleEndian.Uint32(b[:]) != toldSum(b) {
		return page.Page{}, api.ErrSum
	}
	if !toldForm(b) {
		return page.Page{}, api.ErrForm
	}
	return page.Page{
		Epoch:  binary.LittleEndian.Uint32(b[epochAt:]),
		Number: binary.LittleEndian.Uint32(b[numberAt:]),
		Kind:   int(b[kindAt]),
		First:  b[marksAt] == 1 || b[marksAt] == 3,
		Last:   b[marksAt] == 2 || b[marksAt] == 3,
		Data:   string(b[dataAt : dataAt+int(b[countAt])]),
	}, api.OK
}

// mixed answers a row of numbers without an order to be seen, the same one each time.
func mixed() func() uint64 {
	x := uint64(88172645463325252)
	return func() uint64 {
		x ^= x << 13
		x ^= x >> 7
		x ^= x << 17
		return x >> 8
	}
}

// text answers n bytes, each of which next tells.
func text(n int, next func() uint64) string {
	list := make([]byte, n)
	for i := range list {
		list[i] = byte(next())
	}
	return string(list)
}

// numbers answers numbers at the edges, and such as have each byte another one.
func numbers() []uint32 {
	return []uint32{0, 1, 2, 127, 128, 255, 256, 257, 65535, 65536, 1 << 24, 0x01020304, 0xfedcba98, 1<<31 - 1, 1 << 31, math.MaxUint32 - 1, math.MaxUint32}
}

// texts answers data of n bytes: of 0s, of 255s, of both, with a 0 at either end, and mixed ones.
func texts(n int) []string {
	list := []string{
		strings.Repeat("\x00", n), strings.Repeat("\xff", n), strings.Repeat("\x00\xff", n)[:n],
		strings.Repeat("a", n-1) + "\x00", "\x00" + strings.Repeat("b", n-1),
	}
	next := mixed()
	for range 3 {
		list = append(list, text(n, next))
	}
	return list
}

// shape is a kind and marks that a right page may have together.
type shape struct {
	kind        int
	first, last bool
}

// shapes answers all of them.
func shapes() []shape {
	return []shape{{1, false, false}, {2, false, false}, {2, true, false}, {2, false, true}, {2, true, true}}
}

// pages answers right pages: of all shapes, of data of all lengths, and each number as epoch and as number.
func pages() []page.Page {
	var list []page.Page
	edges := numbers()
	at := 0
	for _, s := range shapes() {
		for n := 1; n <= room; n++ {
			for _, data := range texts(n) {
				epoch, number := edges[at%len(edges)], edges[at/len(edges)%len(edges)]
				list = append(list, page.Page{Epoch: epoch, Number: number, Kind: s.kind, First: s.first, Last: s.last, Data: data})
				at++
			}
		}
	}
	return list
}

// few answers some right pages, for tests that try much with each: of the least and the most data, of both kinds, of all marks.
func few() []page.Page {
	return []page.Page{
		{Kind: 1, Data: "\x00"},
		{Epoch: 3, Number: 16, Kind: 1, Data: "\x01\x00\x00\x00"},
		{Epoch: 258, Number: 7, Kind: 2, First: true, Data: "hello"},
		{Epoch: 1, Number: 1, Kind: 2, Data: strings.Repeat("\xff\x00", 24)},
		{Epoch: 1 << 31, Number: 1023, Kind: 2, Last: true, Data: strings.Repeat("\x00", room)},
		{Epoch: math.MaxUint32, Number: math.MaxUint32, Kind: 2, First: true, Last: true, Data: strings.Repeat("\xff", room)},
	}
}
