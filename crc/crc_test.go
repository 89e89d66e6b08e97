package crc_test

import (
	"bytes"
	"testing"

	"crossbuck/crc"
)

// divided is the sum as the rest of a division: the bits of b, and sixteen bits 0 behind them, with sum xored into the first sixteen, by 1 0001 0000 0010 0001. It goes another way than the document's words.
func divided(sum uint16, b []byte) uint16 {
	var row []int
	for _, x := range append(bytes.Clone(b), 0, 0) {
		for i := 7; i >= 0; i-- {
			row = append(row, int(x>>i)&1)
		}
	}
	for i := range 16 {
		row[i] ^= int(sum>>(15-i)) & 1
	}
	for i := range 8 * len(b) {
		if row[i] == 1 {
			row[i] ^= 1
			row[i+4] ^= 1
			row[i+11] ^= 1
			row[i+16] ^= 1
		}
	}
	rest := 0
	for _, bit := range row[8*len(b):] {
		rest = rest<<1 | bit
	}
	return uint16(rest)
}

// mixed is n bytes that look like no rule, the same ones each time.
func mixed(n int) []byte {
	b := make([]byte, n)
	x := uint32(n) + 12345
	for i := range b {
		x = x*1664525 + 1013904223
		b[i] = byte(x >> 24)
	}
	return b
}

// messages are rows of bytes of many lengths and kinds.
func messages() [][]byte {
	all := [][]byte{
		nil,
		{},
		{0},
		{0xff},
		{0, 0},
		{0xff, 0xff},
		{0xff, 0xff, 0, 0},
		[]byte("123456789"),
		make([]byte, 40),
		bytes.Repeat([]byte{0xff}, 40),
		mixed(1000),
		mixed(70001),
	}
	for n := range 50 {
		all = append(all, mixed(n))
	}
	return all
}

// P2.1: sums that are known.
func TestSumKnown(t *testing.T) {
	for _, x := range []struct {
		b    string
		want uint16
	}{
		{"123456789", 0x29b1},
		{"", 0xffff},
		{"\x00", 0xe1f0},
		{"A", 0xb915},
		{"\xff", 0xff00},
		{"\xff\xff", 0x0000},
		{"\xff\xff\x00", 0x0000},
	} {
		if got := crc.Sum([]byte(x.b)); got != x.want {
			t.Errorf("Sum of % x: %04x, not %04x", x.b, got, x.want)
		}
	}
}

// P2.1: steps of Add that can be followed by hand.
func TestAddKnown(t *testing.T) {
	for _, x := range []struct {
		sum  uint16
		b    []byte
		want uint16
	}{
		{0, nil, 0},
		{0x1234, nil, 0x1234},
		{0xffff, []byte{}, 0xffff},
		{0, []byte{0}, 0},
		{0, []byte{1}, 0x1021},
		{0, []byte{2}, 0x2042},
		{0, []byte{0x10}, 0x1231},
		{0x0100, []byte{0}, 0x1021},
		{0x0001, []byte{0}, 0x0100},
		{0x00ff, []byte{0}, 0xff00},
		{0x0100, []byte{1}, 0},
		{0, []byte{0, 0, 0, 1, 0x10, 0x21}, 0},
		{0, []byte("123456789"), 0x31c3},
	} {
		if got := crc.Add(x.sum, x.b); got != x.want {
			t.Errorf("Add(%04x, % x): %04x, not %04x", x.sum, x.b, got, x.want)
		}
	}
}

// P2.1: every sum with some bytes, and every byte with some sums.
func TestAddOneByte(t *testing.T) {
	for sum := range 1 << 16 {
		for _, x := range []byte{0, 1, 0x80, 0xff, byte(sum), byte(sum >> 8)} {
			b := []byte{x}
			if got, want := crc.Add(uint16(sum), b), divided(uint16(sum), b); got != want {
				t.Fatalf("Add(%04x, %02x): %04x, not %04x", sum, x, got, want)
			}
		}
	}
	for _, sum := range []uint16{0, 1, 0x80, 0x100, 0x8000, 0x1021, 0xff00, 0xffff} {
		for x := range 256 {
			b := []byte{byte(x)}
			if got, want := crc.Add(sum, b), divided(sum, b); got != want {
				t.Fatalf("Add(%04x, %02x): %04x, not %04x", sum, x, got, want)
			}
		}
	}
}

// P2.1: rows of bytes of many lengths; Sum is Add of ffff.
func TestSumAndAdd(t *testing.T) {
	for _, b := range messages() {
		for _, sum := range []uint16{0, 1, 0x8000, 0xbeef, 0xffff} {
			if got, want := crc.Add(sum, b), divided(sum, b); got != want {
				t.Errorf("Add(%04x, %d bytes): %04x, not %04x", sum, len(b), got, want)
			}
		}
		if got, want := crc.Sum(b), divided(0xffff, b); got != want {
			t.Errorf("Sum(%d bytes): %04x, not %04x", len(b), got, want)
		}
	}
}

// P2.2: Seals that are known: the higher byte of the sum stands first.
func TestSealKnown(t *testing.T) {
	for _, x := range []struct{ b, want []byte }{
		{nil, []byte{0xff, 0xff}},
		{[]byte{}, []byte{0xff, 0xff}},
		{[]byte{0}, []byte{0, 0xe1, 0xf0}},
		{[]byte{0xff, 0xff}, []byte{0xff, 0xff, 0, 0}},
		{[]byte("123456789"), []byte("123456789\x29\xb1")},
	} {
		if got := crc.Seal(x.b); !bytes.Equal(got, x.want) {
			t.Errorf("Seal of % x: % x, not % x", x.b, got, x.want)
		}
	}
}

// P2.2: what was sealed is opened, and sealed twice opened twice; the two bytes of its sum the other way round are none, but where they are alike.
func TestSealAndOpen(t *testing.T) {
	for _, b := range messages() {
		n, sealed := len(b), crc.Seal(b)
		sum := divided(0xffff, b)
		if want := append(bytes.Clone(b), byte(sum>>8), byte(sum)); !bytes.Equal(sealed, want) {
			t.Fatalf("%d bytes: Seal is another one", n)
		}
		if got, ok := crc.Open(sealed); !ok || !bytes.Equal(got, b) {
			t.Errorf("%d bytes: Open of Seal: %d bytes, %v", n, len(got), ok)
		}
		if got, ok := crc.Open(crc.Seal(sealed)); !ok || !bytes.Equal(got, sealed) {
			t.Errorf("%d bytes: Open of Seal of Seal: %d bytes, %v", n, len(got), ok)
		}
		round := append(bytes.Clone(b), sealed[n+1], sealed[n])
		if _, ok := crc.Open(round); ok != (sealed[n] == sealed[n+1]) {
			t.Errorf("%d bytes: Open of the sum's bytes the other way round: %v", n, ok)
		}
	}
}

// P2.2: a byte behind a Seal makes another one if it is 0, and none else; a Seal's piece is a Seal or none, as its own sum says.
func TestOpenMoreAndFewer(t *testing.T) {
	for _, b := range messages() {
		sealed := crc.Seal(b)
		if got, ok := crc.Open(append(bytes.Clone(sealed), 0)); !ok || !bytes.Equal(got, sealed[:len(b)+1]) {
			t.Errorf("%d bytes, sealed, and a byte 0: %d bytes, %v", len(b), len(got), ok)
		}
		for _, x := range []byte{1, 0x80, 0xff} {
			refuse(t, "a byte more", append(bytes.Clone(sealed), x))
		}
		if len(b) == 0 {
			continue
		}
		for _, piece := range [][]byte{sealed[1:], sealed[:len(b)+1]} {
			n := len(piece) - 2
			sum := divided(0xffff, piece[:n])
			want := piece[n] == byte(sum>>8) && piece[n+1] == byte(sum)
			if got, ok := crc.Open(piece); ok != want || ok && !bytes.Equal(got, piece[:n]) || !ok && len(got) != 0 {
				t.Errorf("%d bytes, sealed, a byte less: %d bytes, %v", len(b), len(got), ok)
			}
		}
	}
}

func refuse(t *testing.T, name string, b []byte) {
	t.Helper()
	if got, ok := crc.Open(b); ok || len(got) != 0 {
		t.Errorf("%s: Open of %d bytes: %d bytes, %v", name, len(b), len(got), ok)
	}
}

// P2.2: of fewer than two bytes there is no Seal, and of two only that of no bytes.
func TestOpenShort(t *testing.T) {
	refuse(t, "nil", nil)
	refuse(t, "no bytes", []byte{})
	for x := range 256 {
		refuse(t, "one byte", []byte{byte(x)})
	}
	for x := range 0xffff {
		refuse(t, "two bytes", []byte{byte(x >> 8), byte(x)})
	}
	if got, ok := crc.Open([]byte{0xff, 0xff}); !ok || len(got) != 0 {
		t.Errorf("Open of ff ff: % x, %v", got, ok)
	}
}

// P2.2: of all sums behind a byte one alone makes a Seal.
func TestOpenOneSum(t *testing.T) {
	for _, x := range []byte{0, 1, 0x7f, 0x80, 0xff} {
		want := divided(0xffff, []byte{x})
		for sum := range 1 << 16 {
			b := []byte{x, byte(sum >> 8), byte(sum)}
			got, ok := crc.Open(b)
			if uint16(sum) != want {
				refuse(t, "another sum", b)
			} else if !ok || !bytes.Equal(got, []byte{x}) {
				t.Errorf("Open of % x: % x, %v", b, got, ok)
			}
		}
	}
}

// roomy is b with spare room behind it that is not 0, and all of that memory.
func roomy(b []byte) (part, whole []byte) {
	whole = append(bytes.Clone(b), "spare room"...)
	return whole[:len(b)], whole
}

// P2.3: what is handed in is not changed, nor is its spare room.
func TestHandedInStays(t *testing.T) {
	for _, b := range messages() {
		for _, x := range [][]byte{b, crc.Seal(b)} {
			part, whole := roomy(x)
			before := bytes.Clone(whole)
			crc.Sum(part)
			crc.Add(7, part)
			crc.Seal(part)
			crc.Open(part)
			if !bytes.Equal(whole, before) {
				t.Errorf("%d bytes: changed by a call", len(x))
			}
		}
	}
}

// P2.3: what is answered shares no memory with what was handed in, spare room too.
func TestAnsweredIsNew(t *testing.T) {
	seal := func(b []byte) ([]byte, bool) { return crc.Seal(b), true }
	for _, b := range messages() {
		sealed := crc.Seal(b)
		answersNew(t, "Seal", seal, b, sealed)
		answersNew(t, "Open", crc.Open, sealed, b)
	}
}

// answersNew spoils what was handed in, and then each of two answers, and looks whether anything else changed with it.
func answersNew(t *testing.T, name string, call func([]byte) ([]byte, bool), in, want []byte) {
	t.Helper()
	part, whole := roomy(in)
	first, ok1 := call(part)
	second, ok2 := call(part)
	if !ok1 || !ok2 {
		t.Errorf("%s of %d bytes: refused", name, len(in))
		return
	}
	spoil(whole)
	if !bytes.Equal(first, want) || !bytes.Equal(second, want) {
		t.Errorf("%s of %d bytes: the answer shares memory with what was handed in", name, len(in))
	}
	before := bytes.Clone(whole)
	spoil(first[:cap(first)])
	if !bytes.Equal(whole, before) {
		t.Errorf("%s of %d bytes: what was handed in shares memory with the answer", name, len(in))
	}
	if !bytes.Equal(second, want) {
		t.Errorf("%s of %d bytes: two answers share memory", name, len(in))
	}
}

func spoil(b []byte) {
	for i := range b {
		b[i] ^= 0xa5
	}
}

// P2.3: an answer, whole or refused, is the same whatever was asked ahead of it, and later calls leave it as it was.
func TestAnswersStay(t *testing.T) {
	var sealed, opened [][]byte
	for _, b := range messages() {
		s := crc.Seal(b)
		o, _ := crc.Open(s)
		sealed, opened = append(sealed, s), append(opened, o)
		refuse(t, "between", append(bytes.Clone(s), 1))
	}
	for i, b := range messages() {
		if !bytes.Equal(sealed[i], crc.Seal(b)) || !bytes.Equal(opened[i], b) {
			t.Errorf("%d bytes: an answer changed later on", len(b))
		}
	}
}

// P2.4: bytes are summed piece by piece.
func TestPieces(t *testing.T) {
	for _, b := range messages() {
		if len(b) > 1000 {
			continue
		}
		for i := range len(b) + 1 {
			if got, want := crc.Add(crc.Sum(b[:i]), b[i:]), crc.Sum(b); got != want {
				t.Errorf("%d bytes cut at %d: %04x, not %04x", len(b), i, got, want)
			}
		}
		sum := uint16(0xffff)
		for i := range b {
			sum = crc.Add(sum, b[i:i+1])
		}
		if sum != crc.Sum(b) {
			t.Errorf("%d bytes one by one: %04x, not %04x", len(b), sum, crc.Sum(b))
		}
	}
}

// turned is b with the bits of pattern turned, the highest of them at the place at, counted from the highest bit of b's first byte on; false, if a bit of it would stand behind b.
func turned(b []byte, pattern uint16, at int) ([]byte, bool) {
	out := bytes.Clone(b)
	for i := range 16 {
		if pattern>>(15-i)&1 == 0 {
			continue
		}
		if at+i >= 8*len(b) {
			return nil, false
		}
		out[(at+i)/8] ^= 0x80 >> ((at + i) % 8)
	}
	return out, true
}

// P2.4: however bits within sixteen are turned in bytes, their sum is another one, whatever sum they began with.
func TestTurnedSum(t *testing.T) {
	for _, b := range [][]byte{{0}, {0xff}, {0, 0}, []byte("a5"), mixed(4)} {
		for at := range 8 * len(b) {
			for pattern := 1 << 15; pattern < 1<<16; pattern++ {
				bad, ok := turned(b, uint16(pattern), at)
				if ok && (crc.Sum(bad) == crc.Sum(b) || crc.Add(0x1d0f, bad) == crc.Add(0x1d0f, b)) {
					t.Fatalf("% x turned to % x: the same sum", b, bad)
				}
			}
		}
	}
}

// P2.4: however bits within sixteen are turned in what was sealed and its sum, it is not opened.
func TestTurnedSeal(t *testing.T) {
	for _, b := range [][]byte{nil, {0}, {0xff, 0xff}, []byte("abc")} {
		sealed := crc.Seal(b)
		for at := range 8 * len(sealed) {
			for pattern := 1 << 15; pattern < 1<<16; pattern++ {
				if bad, ok := turned(sealed, uint16(pattern), at); ok {
					refuse(t, "turned", bad)
				}
			}
		}
	}
}

// P2.4: likewise at every place of longer ones, with one bit, two, some, and all sixteen turned.
func TestTurnedLong(t *testing.T) {
	patterns := []uint16{0x8000, 0x8001, 0x8810, 0x9021, 0xaaaa, 0xbeef, 0xc000, 0xff00, 0xffff}
	for _, b := range [][]byte{[]byte("123456789"), make([]byte, 60), mixed(300)} {
		sealed := crc.Seal(b)
		for at := range 8 * len(sealed) {
			for _, pattern := range patterns {
				if bad, ok := turned(sealed, pattern, at); ok {
					refuse(t, "turned", bad)
				}
			}
		}
	}
}
