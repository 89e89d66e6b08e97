package octet_test

import (
	"bytes"
	"fmt"
	"testing"

	"crossbuck/api"
	"crossbuck/fault"
	"crossbuck/octet"
)

// mixed is n bytes that look like no rule, none of them 0, the same ones each time.
func mixed(n int) []byte {
	b := make([]byte, n)
	x := uint32(n) + 4711
	for i := range b {
		x = x*1664525 + 1013904223
		b[i] = byte(x>>24)%255 + 1
	}
	return b
}

// numbers32 are the ends of numbers of four bytes, each bit of them alone, one more and one less, and many others.
func numbers32() []uint32 {
	all := []uint32{0, 1, 0xffffffff, 0xfffffffe, 0x01020304, 0xfffefdfc, 0xff00ff00, 0x00ff00ff, 0x7fffffff}
	for i := range 32 {
		all = append(all, 1<<i, 1<<i-1, 1<<i+1, ^uint32(1<<i))
	}
	x := uint32(99)
	for range 1000 {
		x = x*1664525 + 1013904223
		all = append(all, x)
	}
	return all
}

// heads are what numbers are laid onto.
func heads() [][]byte {
	return [][]byte{nil, {}, {0}, {0xff}, {1, 2}, make([]byte, 9), bytes.Repeat([]byte{0xff}, 40), mixed(1000)}
}

// holdsError tells where err is not what the document asks: nil, or one of the code ErrForm.
func holdsError(t *testing.T, name string, err error, want bool) {
	t.Helper()
	if !want {
		if err != nil {
			t.Errorf("%s: %v, not nil", name, err)
		}
		return
	}
	if err == nil || fault.Code(err) != api.ErrForm || len(fault.Path(err)) == 0 {
		t.Errorf("%s: %v, no error of layer 1 of the code ErrForm", name, err)
	}
}

// P3.1: the bytes of numbers that are known, the document's example among them.
func TestPutKnown(t *testing.T) {
	for _, x := range []struct {
		n    uint16
		want []byte
	}{
		{258, []byte{1, 2}},
		{0, []byte{0, 0}},
		{1, []byte{0, 1}},
		{0xff, []byte{0, 0xff}},
		{0x100, []byte{1, 0}},
		{0x7fff, []byte{0x7f, 0xff}},
		{0x8000, []byte{0x80, 0}},
		{0xffff, []byte{0xff, 0xff}},
	} {
		if got := octet.Put16(nil, x.n); !bytes.Equal(got, x.want) {
			t.Errorf("Put16 of %d: % x, not % x", x.n, got, x.want)
		}
	}
	for _, x := range []struct {
		n    uint32
		want []byte
	}{
		{0x01020304, []byte{1, 2, 3, 4}},
		{0, []byte{0, 0, 0, 0}},
		{258, []byte{0, 0, 1, 2}},
		{0xffff, []byte{0, 0, 0xff, 0xff}},
		{0x10000, []byte{0, 1, 0, 0}},
		{0x7fffffff, []byte{0x7f, 0xff, 0xff, 0xff}},
		{0x80000000, []byte{0x80, 0, 0, 0}},
		{0xffffffff, []byte{0xff, 0xff, 0xff, 0xff}},
	} {
		if got := octet.Put32(nil, x.n); !bytes.Equal(got, x.want) {
			t.Errorf("Put32 of %d: % x, not % x", x.n, got, x.want)
		}
	}
}

// P3.1: every number of two bytes, and many of four, by division.
func TestPutDivided(t *testing.T) {
	for n := range 1 << 16 {
		want := []byte{byte(n / 256), byte(n % 256)}
		if got := octet.Put16(nil, uint16(n)); !bytes.Equal(got, want) {
			t.Fatalf("Put16 of %d: % x, not % x", n, got, want)
		}
	}
	for _, n := range numbers32() {
		want := []byte{byte(n / 16777216), byte(n / 65536 % 256), byte(n / 256 % 256), byte(n % 256)}
		if got := octet.Put32(nil, n); !bytes.Equal(got, want) {
			t.Fatalf("Put32 of %d: % x, not % x", n, got, want)
		}
	}
}

// P3.1: what was there stands ahead of the number, whole; no bytes are nil and empty alike.
func TestPutBehind(t *testing.T) {
	for _, b := range heads() {
		if got, want := octet.Put16(b, 0xa1b2), string(b)+"\xa1\xb2"; string(got) != want {
			t.Errorf("Put16 behind %d bytes: % x", len(b), got)
		}
		if got, want := octet.Put32(b, 0xa1b2c3d4), string(b)+"\xa1\xb2\xc3\xd4"; string(got) != want {
			t.Errorf("Put32 behind %d bytes: % x", len(b), got)
		}
	}
}

// P3.2: numbers that are read one behind the other, the highest byte first, to the end.
func TestReadKnown(t *testing.T) {
	r := octet.Over([]byte{0x80, 1, 2, 0xfe, 0xdc, 0xba, 0x98, 0, 0, 0xff, 7, 8, 9})
	if n := r.U8(); n != 0x80 {
		t.Errorf("U8: %x", n)
	}
	if n := r.U16(); n != 258 {
		t.Errorf("U16: %x", n)
	}
	if n := r.U32(); n != 0xfedcba98 {
		t.Errorf("U32: %x", n)
	}
	if n := r.U16(); n != 0 {
		t.Errorf("U16: %x", n)
	}
	if n := r.U8(); n != 0xff {
		t.Errorf("U8: %x", n)
	}
	holdsError(t, "Err ahead of the rest", r.Err(), false)
	holdsError(t, "End ahead of the rest", r.End(), true)
	if b := r.Rest(); !bytes.Equal(b, []byte{7, 8, 9}) {
		t.Errorf("Rest: % x", b)
	}
	holdsError(t, "Err behind the rest", r.Err(), false)
	holdsError(t, "End behind the rest", r.End(), false)
}

// calls are all calls of a reader, the numbers first, then Rest: of each a short name, how many bytes its number has (0: it is none), and the call, its answer told as a text.
var calls = []struct {
	letter string
	width  int
	call   func(*octet.Reader) string
}{
	{"8", 1, func(r *octet.Reader) string { return fmt.Sprint(r.U8()) }},
	{"16", 2, func(r *octet.Reader) string { return fmt.Sprint(r.U16()) }},
	{"32", 4, func(r *octet.Reader) string { return fmt.Sprint(r.U32()) }},
	{"Rest", 0, func(r *octet.Reader) string { return fmt.Sprintf("%x", r.Rest()) }},
	{"Err", 0, func(r *octet.Reader) string { return fmt.Sprint(int(fault.Code(r.Err()))) }},
	{"End", 0, func(r *octet.Reader) string { return fmt.Sprint(int(fault.Code(r.End()))) }},
}

// model is what a reader should answer, by places in a row that stays as it is.
type model struct {
	row  []byte
	at   int
	fell bool
}

func (m *model) number(width int) string {
	if m.fell || m.at+width > len(m.row) {
		m.fell, m.at = true, len(m.row)
		return "0"
	}
	n, place := 0, 1
	for i := width - 1; i >= 0; i-- {
		n += int(m.row[m.at+i]) * place
		place *= 256
	}
	m.at += width
	return fmt.Sprint(n)
}

func (m *model) call(letter string, width int) string {
	switch {
	case width > 0:
		return m.number(width)
	case letter == "Rest":
		rest := m.row[m.at:]
		m.at = len(m.row)
		return fmt.Sprintf("%x", rest)
	case m.fell, letter == "End" && m.at < len(m.row):
		return "2"
	}
	return "0"
}

// follow calls what the digits of order tell, one behind the other, and holds each answer against the model's.
func follow(t *testing.T, row []byte, order, steps int) {
	t.Helper()
	r, m, told := octet.Over(row), model{row: row}, ""
	for range steps {
		c := calls[order%len(calls)]
		order /= len(calls)
		told += " " + c.letter
		if got, want := c.call(r), m.call(c.letter, c.width); got != want {
			t.Fatalf("% x:%s: %s, not %s", row, told, got, want)
		}
	}
}

// P3.2, P3.3: all orders of five calls over no bytes, one, and so on.
func TestAllOrders(t *testing.T) {
	const steps = 5
	orders := 1
	for range steps {
		orders *= len(calls)
	}
	for n := range 11 {
		for order := range orders {
			follow(t, mixed(n), order, steps)
		}
	}
}

// P3.2: just as many bytes as a number has are enough; one fewer, and so on down to none, are too few.
func TestJustEnough(t *testing.T) {
	for _, c := range calls[:3] {
		for n := range c.width + 1 {
			name := fmt.Sprintf("U%s over %d bytes", c.letter, n)
			r := octet.Over(mixed(n))
			got := c.call(r)
			if (got == "0") != (n < c.width) {
				t.Errorf("%s: %s", name, got)
			}
			holdsError(t, name+": Err", r.Err(), n < c.width)
			holdsError(t, name+": End", r.End(), n < c.width)
			if b := r.Rest(); len(b) != 0 {
				t.Errorf("%s: % x left", name, b)
			}
		}
	}
}

// P3.2, P3.3: behind a call that met too few bytes each call, however often, answers 0 and nothing, though bytes for a shorter number were there; and the error stays.
func TestBehindTooFew(t *testing.T) {
	for _, first := range calls[:3] {
		for n := range first.width {
			for _, second := range calls[:4] {
				r := octet.Over(append(mixed(8), mixed(n)...))
				r.U32()
				r.U32()
				name := fmt.Sprintf("U%s over %d bytes, then %s", first.letter, n, second.letter)
				holdsError(t, name+": Err ahead", r.Err(), false)
				first.call(r)
				for range 20 {
					if got := second.call(r); got != "0" && got != "" {
						t.Errorf("%s: %s", name, got)
					}
					holdsError(t, name+": Err", r.Err(), true)
					holdsError(t, name+": End", r.End(), true)
				}
			}
		}
	}
}

// P3.2: Rest is all that is left, and nothing behind it; it never meets too few bytes; a number behind it does.
func TestRest(t *testing.T) {
	for n := range 20 {
		for at := range n + 1 {
			name := fmt.Sprintf("%d bytes, Rest at %d", n, at)
			b := mixed(n)
			r := octet.Over(b)
			for range at {
				r.U8()
			}
			if got := r.Rest(); !bytes.Equal(got, b[at:]) {
				t.Errorf("%s: % x, not % x", name, got, b[at:])
			}
			if got := r.Rest(); len(got) != 0 {
				t.Errorf("%s: again % x", name, got)
			}
			holdsError(t, name+": Err", r.Err(), false)
			holdsError(t, name+": End", r.End(), false)
			if x := r.U8(); x != 0 {
				t.Errorf("%s: U8 behind it: %d", name, x)
			}
			holdsError(t, name+": Err behind U8", r.Err(), true)
		}
	}
}

// P3.2, P3.3: a reader over no bytes, nil and empty alike, has nothing left and no error.
func TestNoBytes(t *testing.T) {
	for _, b := range [][]byte{nil, {}, make([]byte, 0, 8)} {
		r := octet.Over(b)
		holdsError(t, "Err", r.Err(), false)
		holdsError(t, "End", r.End(), false)
		if rest := r.Rest(); len(rest) != 0 {
			t.Errorf("Rest: % x", rest)
		}
		for _, c := range calls[:3] {
			r := octet.Over(b)
			if got := c.call(r); got != "0" {
				t.Errorf("U%s: %s", c.letter, got)
			}
			holdsError(t, "Err behind U"+c.letter, r.Err(), true)
			holdsError(t, "End behind U"+c.letter, r.End(), true)
		}
	}
}

// P3.3: End is an error ahead of the last byte, none at the end, one beyond it; being asked changes nothing, and is not Err's error.
func TestEnd(t *testing.T) {
	b := mixed(6)
	r := octet.Over(b)
	for i := range b {
		for range 3 {
			holdsError(t, fmt.Sprintf("End ahead of byte %d", i), r.End(), true)
			holdsError(t, fmt.Sprintf("Err ahead of byte %d", i), r.Err(), false)
		}
		if x := r.U8(); x != b[i] {
			t.Errorf("byte %d: %x, not %x", i, x, b[i])
		}
	}
	for range 3 {
		holdsError(t, "End at the end", r.End(), false)
		holdsError(t, "Err at the end", r.Err(), false)
	}
	r.U16()
	for range 3 {
		holdsError(t, "End beyond the end", r.End(), true)
		holdsError(t, "Err beyond the end", r.Err(), true)
	}
}

// roomy is b as a part of a longer row, and that row: spare room lies behind it, and bytes ahead of it.
func roomy(b []byte) (part, whole []byte) {
	whole = append([]byte{0x5a, 0x5b, 0x5c}, b...)
	whole = append(whole, 0x6a, 0x6b, 0x6c, 0x6d, 0x6e, 0x6f)
	return whole[3 : 3+len(b)], whole
}

func spoil(b []byte) {
	for i := range b {
		b[i] ^= 0xa5
	}
}

// puts are both calls that lay numbers.
var puts = []struct {
	name string
	put  func([]byte, uint32) []byte
	want func(uint32) string
}{
	{"Put16", func(b []byte, n uint32) []byte { return octet.Put16(b, uint16(n)) }, func(n uint32) string { return string([]byte{byte(n >> 8), byte(n)}) }},
	{"Put32", octet.Put32, func(n uint32) string { return string([]byte{byte(n >> 24), byte(n >> 16), byte(n >> 8), byte(n)}) }},
}

// P3.4: what numbers are laid onto stays as it was, its spare room too, and shares nothing with the answers, nor they with each other, in their spare room neither.
func TestPutNew(t *testing.T) {
	const one, two = 0x01020304, 0xf1f2f3f4
	for _, p := range puts {
		for _, b := range heads() {
			name := fmt.Sprintf("%s behind %d bytes", p.name, len(b))
			part, whole := roomy(b)
			before := bytes.Clone(whole)
			first := p.put(part, one)
			second := p.put(part, two)
			if !bytes.Equal(whole, before) {
				t.Errorf("%s: what was handed in was changed", name)
			}
			spoil(whole)
			if string(first) != string(b)+p.want(one) || string(second) != string(b)+p.want(two) {
				t.Errorf("%s: an answer shares memory", name)
			}
			before = bytes.Clone(whole)
			spoil(first[:cap(first)])
			if !bytes.Equal(whole, before) || string(second) != string(b)+p.want(two) {
				t.Errorf("%s: the first answer shares memory", name)
			}
		}
	}
}

// P3.4: two lists that are laid onto one that was answered do not share memory, nor with it.
func TestPutOntoAnswer(t *testing.T) {
	base := octet.Put32(octet.Put16(nil, 1), 2)
	a, b := octet.Put16(base, 0xaaaa), octet.Put32(base, 0xbbbbbbbb)
	c := octet.Put16(a, 0xcccc)
	want := "\x00\x01\x00\x00\x00\x02"
	for _, x := range []struct {
		got  []byte
		want string
	}{
		{base, want}, {a, want + "\xaa\xaa"}, {b, want + "\xbb\xbb\xbb\xbb"}, {c, want + "\xaa\xaa\xcc\xcc"},
	} {
		if string(x.got) != x.want {
			t.Errorf("% x, not % x", x.got, x.want)
		}
		spoil(x.got[:cap(x.got)])
	}
}

// P3.4: what a reader is made over stays as it was, and may be changed at any time: the reader reads what was there at Over.
func TestOverKeepsNothing(t *testing.T) {
	for n := range 12 {
		b := mixed(n)
		part, whole := roomy(b)
		before := bytes.Clone(whole)
		r, other := octet.Over(part), octet.Over(part)
		m := model{row: b}
		spoil(whole)
		for _, c := range calls {
			if got, want := c.call(r), m.call(c.letter, c.width); got != want {
				t.Errorf("%d bytes, changed behind Over: %s: %s, not %s", n, c.letter, got, want)
			}
		}
		spoil(whole)
		if !bytes.Equal(whole, before) {
			t.Errorf("%d bytes: what was handed in was changed", n)
		}
		if rest := other.Rest(); !bytes.Equal(rest, b) {
			t.Errorf("%d bytes: another reader has % x left", n, rest)
		}
	}
}

// P3.4: what Rest answers may be changed, its spare room too: neither what was handed in, nor another answer, nor any reader changes with it.
func TestRestNew(t *testing.T) {
	for n := range 12 {
		b := mixed(n)
		part, whole := roomy(b)
		before := bytes.Clone(whole)
		r, other, third := octet.Over(part), octet.Over(part), octet.Over(part)
		first, second := r.Rest(), other.Rest()
		again := r.Rest()
		spoil(first[:cap(first)])
		if !bytes.Equal(whole, before) {
			t.Errorf("%d bytes: what was handed in shares memory with Rest", n)
		}
		if !bytes.Equal(second, b) || len(again) != 0 || !bytes.Equal(third.Rest(), b) {
			t.Errorf("%d bytes: Rest shares memory with another one", n)
		}
		holdsError(t, "End", r.End(), false)
		spoil(whole)
		if !bytes.Equal(second, b) {
			t.Errorf("%d bytes: Rest shares memory with what was handed in", n)
		}
	}
}

// P3.4: readers over the same bytes do not know of each other; an error of one that was answered stays as it was.
func TestReadersApart(t *testing.T) {
	b := mixed(5)
	r, other := octet.Over(b), octet.Over(b)
	left := r.End()
	text := left.Error()
	r.U32()
	r.U32()
	short := r.Err()
	holdsError(t, "the other's Err", other.Err(), false)
	if x := other.U8(); x != b[0] {
		t.Errorf("the other's first byte: %x", x)
	}
	r.Rest()
	holdsError(t, "End as it was told", left, true)
	holdsError(t, "Err as it was told", short, true)
	if left.Error() != text {
		t.Errorf("End's error changed from %s to %s", text, left.Error())
	}
}

// P3.5: what was laid is read as it was: each number of two bytes.
func TestReadAsLaid16(t *testing.T) {
	for n := range 1 << 16 {
		r := octet.Over(octet.Put16(nil, uint16(n)))
		if got := r.U16(); got != uint16(n) || r.End() != nil {
			t.Fatalf("%d: read as %d", n, got)
		}
	}
}

// P3.5: likewise many numbers of four bytes and of two, one behind the other, with bytes ahead and a rest behind them.
func TestReadAsLaid(t *testing.T) {
	for _, head := range heads() {
		b := head
		for _, n := range numbers32() {
			b = octet.Put16(octet.Put32(b, n), uint16(n>>7))
		}
		b = append(b, "rest"...)
		r := octet.Over(b)
		for i, x := range head {
			if got := r.U8(); got != x {
				t.Fatalf("%d bytes ahead: byte %d: %d, not %d", len(head), i, got, x)
			}
		}
		for i, n := range numbers32() {
			if got := r.U32(); got != n {
				t.Fatalf("%d bytes ahead: number %d: %d, not %d", len(head), i, got, n)
			}
			if got := r.U16(); got != uint16(n>>7) {
				t.Fatalf("%d bytes ahead: short number %d: %d, not %d", len(head), i, got, uint16(n>>7))
			}
		}
		holdsError(t, "End ahead of the rest", r.End(), true)
		if got := r.Rest(); string(got) != "rest" {
			t.Errorf("%d bytes ahead: Rest: %q", len(head), got)
		}
		holdsError(t, "End", r.End(), false)
	}
}
