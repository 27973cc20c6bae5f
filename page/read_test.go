package page_test

import (
	"math"
	"math/bits"
	"strings"
	"testing"

	"spool/api"
	"spool/page"
)

// laid answers the bytes of a right page.
func laid(t *testing.T, p page.Page) api.Page {
	t.Helper()
	b, err := page.Lay(p)
	if err != api.OK {
		t.Fatalf("Lay(%+v) = %d", p, err)
	}
	return b
}

// refuses holds that bytes aren't read, and that no page is answered then.
func refuses(t *testing.T, b api.Page, want api.Errno) {
	t.Helper()
	if p, err := page.Read(b); p != (page.Page{}) || err != want {
		t.Errorf("Read(%x) = %+v, %d, want %d", b, p, err, want)
	}
}

// asTold holds what Read answers of bytes against the chapter's words, and that what is read is laid as just these bytes.
func asTold(t *testing.T, b api.Page) {
	t.Helper()
	want, wantErr := toldRead(b)
	p, err := page.Read(b)
	if p != want || err != wantErr {
		t.Fatalf("Read(%x) = %+v, %d, want %+v, %d", b, p, err, want, wantErr)
	}
	if err != api.OK {
		return
	}
	if again, err := page.Lay(p); again != b || err != api.OK {
		t.Fatalf("Read(%x) = %+v, which is laid as %x, %d", b, p, again, err)
	}
}

// TestThereAndBack holds that what is laid is read as it was (17.1, 17.2).
func TestThereAndBack(t *testing.T) {
	for _, p := range append(pages(), few()...) {
		if q, err := page.Read(laid(t, p)); q != p || err != api.OK {
			t.Errorf("of %+v: Read = %+v, %d", p, q, err)
		}
	}
	for _, epoch := range numbers() {
		for _, number := range numbers() {
			p := page.Page{Epoch: epoch, Number: number, Kind: 2, Last: true, Data: "ab\x00"}
			if q, err := page.Read(laid(t, p)); q != p || err != api.OK {
				t.Errorf("of %+v: Read = %+v, %d", p, q, err)
			}
		}
	}
}

// TestZeros is the chapter's example: 64 zero bytes (17.1).
func TestZeros(t *testing.T) {
	refuses(t, api.Page{}, api.ErrSum)
}

// TestAlike tries 64 bytes that are all one (17.1).
func TestAlike(t *testing.T) {
	for x := range 256 {
		var b api.Page
		for i := range b {
			b[i] = byte(x)
		}
		refuses(t, b, api.ErrSum)
		refuses(t, summed(b), api.ErrForm)
	}
}

// TestByteChanged changes each single byte to each other one (17.2).
func TestByteChanged(t *testing.T) {
	for _, p := range few() {
		b := laid(t, p)
		for i := range b {
			for x := 1; x < 256; x++ {
				changed := b
				changed[i] ^= byte(x)
				refuses(t, changed, api.ErrSum)
			}
		}
	}
}

// TestTwoBytesChanged changes each two bytes in several ways (17.1).
func TestTwoBytesChanged(t *testing.T) {
	next := mixed()
	for _, p := range few() {
		b := laid(t, p)
		for i := range b {
			for j := range i {
				for range 4 {
					changed := b
					changed[i] ^= byte(1 + next()%255)
					changed[j] ^= byte(1 + next()%255)
					refuses(t, changed, api.ErrSum)
				}
			}
		}
	}
}

// TestManyBytesChanged changes rows of bytes: to 0s, as where less was written, to 255s, and to mixed ones (17.1).
func TestManyBytesChanged(t *testing.T) {
	next := mixed()
	for _, p := range few() {
		b := laid(t, p)
		for from := range b {
			for to := from + 1; to <= len(b); to++ {
				for _, fill := range []func() byte{func() byte { return 0 }, func() byte { return 255 }, func() byte { return byte(next()) }} {
					changed := b
					for i := from; i < to; i++ {
						changed[i] = fill()
					}
					if changed != b {
						refuses(t, changed, api.ErrSum)
					}
				}
			}
		}
	}
}

// TestBytesMoved tries bytes of a page at another place (17.1).
func TestBytesMoved(t *testing.T) {
	for _, p := range few() {
		b := laid(t, p)
		for by := 1; by < len(b); by++ {
			var turned api.Page
			for i, x := range b {
				turned[(i+by)%len(b)] = x
			}
			refuses(t, turned, api.ErrSum)
		}
		for i := range b {
			for j := range i {
				swapped := b
				swapped[i], swapped[j] = b[j], b[i]
				if swapped != b {
					refuses(t, swapped, api.ErrSum)
				}
			}
		}
	}
}

// TestOtherSums tries sums that are another one: of another page, and told otherwise than the chapter tells them (17.1).
func TestOtherSums(t *testing.T) {
	list := few()
	for i, p := range list {
		b := laid(t, p)
		for j, q := range list {
			if i != j {
				other := b
				copy(other[:4], sumBytes(t, q))
				refuses(t, other, api.ErrSum)
			}
		}
		sum := toldSum(b)
		for _, other := range []uint32{0, 1, math.MaxUint32, ^sum, sum + 1, sum - 1, -sum, bits.ReverseBytes32(sum), bits.Reverse32(sum)} {
			changed := b
			for k := range 4 {
				changed[k] = byte(other >> (8 * k))
			}
			if other != sum {
				refuses(t, changed, api.ErrSum)
			}
		}
	}
}

// sumBytes answers the four bytes of a right page's sum.
func sumBytes(t *testing.T, p page.Page) []byte {
	t.Helper()
	b := laid(t, p)
	return b[:4]
}

// TestNoKind tries each byte that is no kind, in bytes whose sum is right (17.1).
func TestNoKind(t *testing.T) {
	for _, p := range few() {
		for kind := range 256 {
			if kind != 1 && kind != 2 {
				b := laid(t, p)
				b[kindAt] = byte(kind)
				refuses(t, summed(b), api.ErrForm)
			}
		}
	}
}

// TestNoMarks tries each byte that is no page's marks, in bytes whose sum is right (17.1).
func TestNoMarks(t *testing.T) {
	for _, p := range few() {
		most := 3
		if p.Kind == 1 {
			most = 0
		}
		for marks := range 256 {
			b := laid(t, p)
			b[marksAt] = byte(marks)
			b = summed(b)
			if marks > most {
				refuses(t, b, api.ErrForm)
				continue
			}
			want := p
			want.First, want.Last = marks%2 == 1, marks >= 2
			if q, err := page.Read(b); q != want || err != api.OK {
				t.Errorf("Read(%x) = %+v, %d, want %+v", b, q, err, want)
			}
		}
	}
}

// TestNoCount tries each byte that is no count of a page's data, in bytes whose sum is right: behind full data, and behind none (17.1).
func TestNoCount(t *testing.T) {
	for _, s := range shapes() {
		for _, data := range []string{strings.Repeat("\xff", room), strings.Repeat("\x00", room)} {
			b := laid(t, page.Page{Epoch: 1, Number: 16, Kind: s.kind, First: s.first, Last: s.last, Data: data})
			for count := range 256 {
				if count == 0 || count > room {
					b[countAt] = byte(count)
					refuses(t, summed(b), api.ErrForm)
				}
			}
		}
	}
}

// TestByteBehind tries each byte behind data of each length, if it isn't 0, in bytes whose sum is right (17.1).
func TestByteBehind(t *testing.T) {
	for _, s := range shapes() {
		for n := 1; n <= room; n++ {
			b := laid(t, page.Page{Epoch: 9, Number: 3, Kind: s.kind, First: s.first, Last: s.last, Data: strings.Repeat("d", n)})
			for i := dataAt + n; i < len(b); i++ {
				for _, x := range []byte{1, 2, 127, 128, 255} {
					changed := b
					changed[i] = x
					refuses(t, summed(changed), api.ErrForm)
				}
			}
		}
	}
}

// TestSumAhead holds that ErrSum goes ahead of ErrForm: each form that may not be, with a sum that is another one (17.1).
func TestSumAhead(t *testing.T) {
	for _, p := range few() {
		for _, c := range []struct {
			at int
			x  byte
		}{
			{kindAt, 0}, {kindAt, 3}, {kindAt, 255}, {marksAt, 4}, {marksAt, 255}, {countAt, 0}, {countAt, 50}, {countAt, 255},
		} {
			b := laid(t, p)
			b[c.at] = c.x
			refuses(t, b, api.ErrSum)
			b = summed(b)
			refuses(t, b, api.ErrForm)
			for i := range 4 {
				changed := b
				changed[i] ^= 1
				refuses(t, changed, api.ErrSum)
			}
		}
	}
	b := laid(t, few()[2])
	b[63] = 1
	refuses(t, b, api.ErrSum)
	refuses(t, summed(b), api.ErrForm)
}

// TestHeads holds what Read answers of all kinds, marks and counts together, at the edges of each, against the chapter's words (17.1, 17.2).
func TestHeads(t *testing.T) {
	edges := []int{0, 1, 2, 3, 4, 5, 6, 7, 8, 16, 47, 48, 49, 50, 51, 63, 64, 127, 128, 129, 130, 131, 254, 255}
	for _, data := range []string{"", "a", strings.Repeat("\x80", room-1), strings.Repeat("\x01", room)} {
		for _, kind := range edges {
			for _, marks := range edges {
				for count := range 256 {
					var b api.Page
					b[kindAt], b[marksAt], b[countAt] = byte(kind), byte(marks), byte(count)
					copy(b[dataAt:], data)
					asTold(t, summed(b))
				}
			}
		}
	}
}

// TestNothingElse holds that nothing else is read as a page: of a page with each byte changed, its sum made right again, and of mixed bytes, with a right sum and without one (17.2).
func TestNothingElse(t *testing.T) {
	for _, p := range few() {
		b := laid(t, p)
		for i := 4; i < len(b); i++ {
			for x := 1; x < 256; x++ {
				changed := b
				changed[i] ^= byte(x)
				changed = summed(changed)
				asTold(t, changed)
				if q, _ := page.Read(changed); q == p {
					t.Fatalf("Read(%x) = %+v, as of %x", changed, q, b)
				}
			}
		}
	}
	next := mixed()
	for at := range 20000 {
		b := api.Page([]byte(text(64, next)))
		asTold(t, b)
		asTold(t, summed(b))
		// Most mixed bytes are of no form; these are nearer to one.
		b[kindAt], b[marksAt], b[countAt] = byte(next()%4), byte(next()%5), byte(next()%52)
		if end := min(dataAt+int(b[countAt]), len(b)); at%3 != 0 {
			clear(b[end:])
		}
		asTold(t, b)
		asTold(t, summed(b))
	}
}

// TestStays holds that what was handed in, and what was handed out, stays as it is (17.1).
func TestStays(t *testing.T) {
	for _, p := range few() {
		given := p
		b, _ := page.Lay(given)
		kept := b
		q, _ := page.Read(b)
		if given != p || b != kept {
			t.Fatalf("of %+v: %+v, %x", p, given, b)
		}
		for i := range b {
			b[i] ^= 255
		}
		given.Data, given.Kind = "other", 0
		if q != p {
			t.Errorf("of %+v: what was read is %+v by now", p, q)
		}
		again, _ := page.Lay(p)
		if again != kept {
			t.Errorf("of %+v: Lay = %x, then %x", p, kept, again)
		}
		if r, _ := page.Read(again); r != p || q != p {
			t.Errorf("of %+v: Read = %+v, then %+v", p, q, r)
		}
	}
}

// TestTextStays holds that data that are a part of a longer text are laid alone, and that the text stays as it is (17.1).
func TestTextStays(t *testing.T) {
	list := []byte(strings.Repeat("0123456789", 10))
	long := string(list)
	p := page.Page{Epoch: 1, Number: 1, Kind: 2, Data: long[20:30]}
	b := laid(t, p)
	if b != toldLay(page.Page{Epoch: 1, Number: 1, Kind: 2, Data: "0123456789"}) {
		t.Errorf("Lay = %x", b)
	}
	for i := range b {
		b[i] = 0
	}
	if long != string(list) || p.Data != "0123456789" {
		t.Errorf("the text is %q, the data %q by now", long, p.Data)
	}
}
