package bank_test

import (
	"bytes"
	"slices"
	"testing"

	"crossbuck/api"
	"crossbuck/bank"
)

// most is the greatest number that a record may have.
const most = 1<<32 - 1

// dice are numbers that look like no rule, the same at each run.
type dice uint64

func (d *dice) below(n int) int {
	*d = *d*6364136223846793005 + 1442695040888963407
	return int(uint64(*d)>>33) % n
}

func (d *dice) bytes(n int) []byte {
	b := make([]byte, n)
	for i := range b {
		b[i] = byte(d.below(256))
	}
	return b
}

// mixed is n bytes that look like no rule, the same ones each time.
func mixed(n int) []byte {
	d := dice(n + 4711)
	return d.bytes(n)
}

// blanks is n bytes that were never written.
func blanks(n int) []byte {
	return bytes.Repeat([]byte{0xff}, n)
}

// row is all of these, one behind the other.
func row(all ...[]byte) []byte {
	return slices.Concat(all...)
}

// seqs are numbers of records, at their edges.
func seqs() []uint32 {
	return []uint32{0, 1, 2, 5, 127, 128, 255, 256, 257, 65535, 65536, 65537, 1<<24 - 1, 1 << 24, 0x01020304, 0x80ff007f, 1<<31 - 1, 1 << 31, 1<<31 + 1, most - 255, most - 2, most - 1, most}
}

// sum is reckoned bit by bit, as a division of the row of bits, not byte by byte as layer 2 does.
func sum(b []byte) uint16 {
	left := uint32(0)
	for i, x := range append(bytes.Clone(b), 0, 0) {
		if i < 2 {
			x ^= 0xff // the sum begins with ffff, which turns the first two bytes
		}
		for bit := 7; bit >= 0; bit-- {
			left = left<<1 | uint32(x>>bit&1)
			if left&0x10000 != 0 {
				left ^= 0x11021
			}
		}
	}
	return uint16(left)
}

// laid is bytes laid like a record, whatever its first byte says, and whatever stands behind it.
func laid(first byte, seq uint32, data []byte, behind byte) []byte {
	b := append([]byte{first, byte(seq >> 24), byte(seq >> 16), byte(seq >> 8), byte(seq)}, data...)
	s := sum(b)
	return append(b, byte(s>>8), byte(s), behind)
}

// record is a record, laid by hand.
func record(seq uint32, data []byte) []byte {
	return laid(byte(len(data)), seq, data, 0)
}

// records is n records from the number seq on, of data of all lengths.
func records(seq uint32, n int) [][]byte {
	var all [][]byte
	for i := range n {
		all = append(all, record(seq+uint32(i), mixed((i*7+int(seq%11))%api.MaxNote+1)))
	}
	return all
}

// told is a record of a row, as the document tells of it.
type told struct {
	seq  uint32
	data string
	end  int
}

// find finds, byte by byte, what the document tells of b: the model that Notes and Last are held against.
func find(b []byte) []told {
	var all []told
	at, want := 0, -1 // want is the number that goes on, of the first record any
	for want <= most {
		if at >= len(b) || b[at] == 0 || b[at] > 40 {
			return all
		}
		n := int(b[at])
		if len(b)-at < 1+4+n+2+1 {
			return all
		}
		part := b[at : at+1+4+n]
		s := sum(part)
		if b[at+5+n] != byte(s>>8) || b[at+6+n] != byte(s) || b[at+7+n] != 0 {
			return all
		}
		seq := 0
		for _, x := range part[1:5] {
			seq = seq*256 + int(x)
		}
		if want >= 0 && seq != want {
			return all
		}
		at += 5 + n + 3
		all = append(all, told{uint32(seq), string(part[5:]), at})
		want = seq + 1
	}
	return all
}

// isZero tells whether n tells of no record.
func isZero(n api.Note) bool {
	return n.Seq == 0 && len(n.Data) == 0 && n.End == 0
}

// same tells whether n is what is told.
func same(n api.Note, x told) bool {
	return n.Seq == x.seq && string(n.Data) == x.data && n.End == x.end
}

// isAll holds that all is found of b, by Notes, and its last one by Last; twice, as being asked changes nothing.
func isAll(t *testing.T, b []byte, all []told) {
	t.Helper()
	for range 2 {
		notes := bank.Notes(b)
		if !slices.EqualFunc(notes, all, same) {
			t.Fatalf("Notes of % x: %v, not %v", b[:min(len(b), 200)], notes, all)
		}
		last, ok := bank.Last(b)
		if ok != (len(all) > 0) || !ok && !isZero(last) || ok && !same(last, all[len(all)-1]) {
			t.Fatalf("Last of % x: %v, %t beside %v", b[:min(len(b), 200)], last, ok, all)
		}
	}
}

// finds holds that what the model finds of b is found, and how many they are.
func finds(t *testing.T, b []byte, n int) {
	t.Helper()
	all := find(b)
	if len(all) != n {
		t.Fatalf("there are %d records, not %d, in % x", len(all), n, b[:min(len(b), 200)])
	}
	isAll(t, b, all)
}

// printed is the record of seq and data, which must be there.
func printed(t *testing.T, seq uint32, data []byte) []byte {
	t.Helper()
	b, ok := bank.Print(seq, data)
	if !ok {
		t.Fatalf("Print(%d, % x): none", seq, data)
	}
	return b
}

// prints holds that there is a record of seq and data, and its bytes.
func prints(t *testing.T, seq uint32, data []byte) {
	t.Helper()
	if got, want := printed(t, seq, data), record(seq, data); !bytes.Equal(got, want) {
		t.Fatalf("Print(%d, % x): % x, not % x", seq, data, got, want)
	}
}

// refuses holds that there is no record of seq and data.
func refuses(t *testing.T, seq uint32, data []byte) {
	t.Helper()
	if b, ok := bank.Print(seq, data); ok || len(b) != 0 {
		t.Fatalf("Print(%d) of %d bytes: % x, %t", seq, len(data), b, ok)
	}
}

// known is a record whose sum was reckoned by another program.
type known struct {
	seq         uint32
	data, bytes string
}

func allKnown() []known {
	forty := "\x01\x02\x03\x04\x05\x06\x07\x08\x09\x0a\x0b\x0c\x0d\x0e\x0f\x10\x11\x12\x13\x14\x15\x16\x17\x18\x19\x1a\x1b\x1c\x1d\x1e\x1f\x20\x21\x22\x23\x24\x25\x26\x27\x28"
	letters := "0123456789abcdef0123456789abcdef0123456"
	zeros, ones := string(make([]byte, 40)), string(blanks(40))
	return []known{
		{5, "a", "\x01\x00\x00\x00\x05a\xc8\xc2\x00"},
		{0, "\x00", "\x01\x00\x00\x00\x00\x00\x4b\xb0\x00"},
		{most, "\xff", "\x01\xff\xff\xff\xff\xff\x88\xd0\x00"},
		{1, "ab", "\x02\x00\x00\x00\x01ab\xd2\xe2\x00"},
		{256, "\xff\x00", "\x02\x00\x00\x01\x00\xff\x00\xe4\x66\x00"},
		{65536, "crossbuck", "\x09\x00\x01\x00\x00crossbuck\x95\xf3\x00"},
		{1 << 31, zeros, "\x28\x80\x00\x00\x00" + zeros + "\x4e\x37\x00"},
		{most - 1, ones, "\x28\xff\xff\xff\xfe" + ones + "\x57\x28\x00"},
		{255, forty, "\x28\x00\x00\x00\xff" + forty + "\xfd\xfb\x00"},
		{0x01020304, letters, "\x27\x01\x02\x03\x04" + letters + "\xe5\x9b\x00"},
	}
}

// P16.1, P16.2: records that are known, the document's example the first of them.
func TestKnown(t *testing.T) {
	for _, k := range allKnown() {
		if got := printed(t, k.seq, []byte(k.data)); string(got) != k.bytes {
			t.Errorf("Print(%d, % x): % x, not % x", k.seq, k.data, got, k.bytes)
		}
		isAll(t, []byte(k.bytes), []told{{k.seq, k.data, len(k.bytes)}})
	}
}

// P16.1: from 1 to 40 bytes of data there is a record, of 8 bytes more; of none and of more there is none.
func TestPrintLengths(t *testing.T) {
	for _, seq := range seqs() {
		refuses(t, seq, nil)
		refuses(t, seq, []byte{})
		for n := 1; n <= api.MaxNote; n++ {
			prints(t, seq, mixed(n))
			if b := printed(t, seq, mixed(n)); len(b) != n+8 {
				t.Fatalf("the record of %d bytes has %d", n, len(b))
			}
		}
		for _, n := range []int{41, 42, 43, 48, 255, 256, 257, 296, 297, 300, 1000, 65535, 65536, 65537, 65576} {
			refuses(t, seq, mixed(n))
			refuses(t, seq, make([]byte, n))
		}
	}
}

// P16.1: each byte that there may be, at each place of the data, and alone.
func TestPrintData(t *testing.T) {
	for _, n := range []int{1, 2, 3, 39, 40} {
		for at := range n {
			for x := range 256 {
				data := mixed(n)
				data[at] = byte(x)
				prints(t, 5, data)
			}
		}
	}
	for n := 1; n <= api.MaxNote; n++ {
		for _, x := range []byte{0, 1, 0x80, 0xff} {
			prints(t, 0, bytes.Repeat([]byte{x}, n))
			prints(t, most, bytes.Repeat([]byte{x}, n))
		}
	}
}

// P16.1: each byte that there may be, at each place of the number.
func TestPrintNumbers(t *testing.T) {
	for _, seq := range seqs() {
		for at := range 4 {
			for x := range uint32(256) {
				number := seq&^(0xff<<(8*at)) | x<<(8*at)
				prints(t, number, []byte("a"))
				prints(t, number, mixed(40))
			}
		}
	}
}

// P16.2: nothing is found where nothing was written, or what was is no record: of no bytes, blank ones, zeros, all others, and of bytes by dice.
func TestNone(t *testing.T) {
	isAll(t, nil, nil)
	isAll(t, []byte{}, nil)
	for n := range 120 {
		isAll(t, blanks(n), nil)
		isAll(t, make([]byte, n), nil)
		for x := range 256 {
			isAll(t, bytes.Repeat([]byte{byte(x)}, n), nil)
		}
		d := dice(n)
		for range 20 {
			isAll(t, d.bytes(n), nil)
		}
	}
}

// P16.2: rows told one by one.
func TestRowsKnown(t *testing.T) {
	five := "\x01\x00\x00\x00\x05a\xc8\xc2\x00"
	one := "\x02\x00\x00\x00\x01ab\xd2\xe2\x00"
	zero := "\x01\x00\x00\x00\x00\x00\x4b\xb0\x00"
	final := "\x01\xff\xff\xff\xff\xff\x88\xd0\x00"
	for _, x := range []struct {
		b   string
		all []told
	}{
		{five, []told{{5, "a", 9}}},
		{five + "\xff", []told{{5, "a", 9}}},
		{five + "\x00", []told{{5, "a", 9}}},
		{five + five, []told{{5, "a", 9}}},
		{five + one, []told{{5, "a", 9}}},
		{one, []told{{1, "ab", 10}}},
		{zero + one, []told{{0, "\x00", 9}, {1, "ab", 19}}},
		{zero + one + "\x01\x00\x00", []told{{0, "\x00", 9}, {1, "ab", 19}}},
		{zero + one + five, []told{{0, "\x00", 9}, {1, "ab", 19}}},
		{one + zero, []told{{1, "ab", 10}}},
		{final, []told{{most, "\xff", 9}}},
		{final + zero + one, []told{{most, "\xff", 9}}},
		{final + final, []told{{most, "\xff", 9}}},
		{"\xff" + five, nil},
		{"\x00" + five, nil},
		{five[1:], nil},
		{five[:8], nil},
		{five[:8] + "\xff", nil},
		{five[:8] + "\x01", nil},
		{"\x01\x00\x00\x00\x05b\xc8\xc2\x00", nil},
		{"\x01\x00\x00\x00\x05a\xc2\xc8\x00", nil},
		{"\x02\x00\x00\x00\x05a\xc8\xc2\x00\x00", nil},
	} {
		isAll(t, []byte(x.b), x.all)
		finds(t, []byte(x.b), len(x.all))
	}
}

// behinds are bytes that may stand behind records, and are none; of each kind so few, too, that no record could stand there.
func behinds() [][]byte {
	all := [][]byte{nil}
	for n := 1; n < 60; n++ {
		all = append(all, blanks(n), make([]byte, n), mixed(n), bytes.Repeat([]byte{1}, n), bytes.Repeat([]byte{40}, n))
	}
	return all
}

// P16.2: one record of each length, and of each number at its edges, with all that may stand behind it.
func TestOne(t *testing.T) {
	for n := 1; n <= api.MaxNote; n++ {
		for _, behind := range behinds() {
			data := mixed(n)
			isAll(t, row(record(5, data), behind), []told{{5, string(data), n + 8}})
		}
	}
	for _, seq := range seqs() {
		isAll(t, record(seq, []byte("a")), []told{{seq, "a", 9}})
		isAll(t, row(record(seq, mixed(40)), blanks(50)), []told{{seq, string(mixed(40)), 48}})
	}
}

// P16.2: many records, from any number on, with all that may stand behind them.
func TestMany(t *testing.T) {
	for n := range 50 {
		for _, seq := range []uint32{0, 1, 5, 200, 65530, 1<<24 - 3, 1<<31 - 7, most - 48} {
			finds(t, row(records(seq, n)...), n)
		}
	}
	for _, n := range []int{1, 2, 3, 7} {
		for _, behind := range behinds() {
			finds(t, row(row(records(254, n)...), behind), n)
		}
	}
}

// P16.2: so many records as a bank may have at most, and many more, of the shortest and of the longest.
func TestGreat(t *testing.T) {
	for _, length := range []int{1, 13, 40} {
		for _, size := range []int{32768, 65536, 1 << 20} {
			var b []byte
			n := 0
			for len(b)+length+8 <= size {
				b = append(b, record(uint32(n)+1000, mixed(length))...)
				n++
			}
			b = append(b, blanks(size-len(b))...)
			finds(t, b, n)
		}
	}
}

// P16.2: behind a record, only that whose number is by 1 greater goes on: not the same one, nor one that is by 2 greater, or lower, nor one that is another by any bit.
func TestNumbers(t *testing.T) {
	for _, seq := range seqs() {
		first := record(seq, []byte("first"))
		for _, other := range seqs() {
			want := 1
			if uint64(other) == uint64(seq)+1 {
				want = 2
			}
			finds(t, row(first, record(other, []byte("second"))), want)
		}
		for step := -5; step <= 5; step++ {
			want := 1
			if step == 1 && seq != most {
				want = 2
			}
			finds(t, row(first, record(seq+uint32(step), []byte("second"))), want)
		}
		for bit := range 32 {
			if other := seq + 1 ^ 1<<bit; seq != most && other != seq+1 {
				finds(t, row(first, record(other, []byte("second"))), 1)
			}
		}
	}
}

// P16.2: the number goes on from that of the record ahead, not from the first one's, nor by how many there are.
func TestNumbersLater(t *testing.T) {
	for n := 1; n < 12; n++ {
		ahead := row(records(100, n)...)
		for step := -15; step <= 15; step++ {
			want := n
			if step == 0 {
				want = n + 2
			}
			seq := uint32(100 + n + step)
			finds(t, row(ahead, record(seq, []byte("a")), record(seq+1, []byte("b"))), want)
		}
	}
}

// P16.2: the greatest number is the last one: neither 0 goes on behind it, nor any other.
func TestNumbersEnd(t *testing.T) {
	for n := 1; n < 6; n++ {
		ahead := row(records(most-uint32(n)+1, n)...)
		finds(t, ahead, n)
		for _, behind := range behinds() {
			finds(t, row(ahead, behind), n)
		}
		for _, seq := range seqs() {
			finds(t, row(ahead, record(seq, []byte("a")), record(seq+1, []byte("b"))), n)
		}
		finds(t, row(ahead, row(records(0, 5)...)), n)
	}
}

// P16.2: a record that is cut at each place, with nothing behind it, or other bytes, at the row's beginning and behind others.
func TestCut(t *testing.T) {
	for _, n := range []int{0, 1, 2, 5} {
		ahead := row(records(7, n)...)
		for length := 1; length <= api.MaxNote; length++ {
			whole := record(7+uint32(n), mixed(length))
			for cut := range whole {
				finds(t, row(ahead, whole[:cut]), n)
				finds(t, row(ahead, whole[:cut], blanks(60)), n)
				finds(t, row(ahead, whole[:cut], bytes.Repeat([]byte{0xee}, 60)), n)
				finds(t, row(ahead, whole[:cut], whole[cut+1:]), n)
				if cut > 0 {
					finds(t, row(ahead, whole[cut:], blanks(60)), n)
				}
			}
			finds(t, row(ahead, whole), n+1)
		}
	}
}

// P16.2: each bit of a record turned: it is not found, nor those behind it, that stand whole; those ahead of it are.
func TestTurned(t *testing.T) {
	for _, n := range []int{0, 1, 3} {
		ahead := row(records(7, n)...)
		behind := row(records(7+uint32(n)+1, 3)...)
		for _, length := range []int{1, 2, 3, 8, 16, 39, 40} {
			whole := record(7+uint32(n), mixed(length))
			finds(t, row(ahead, whole, behind), n+4)
			for bit := range 8 * len(whole) {
				spoilt := bytes.Clone(whole)
				spoilt[bit/8] ^= 1 << (bit % 8)
				finds(t, row(ahead, spoilt), n)
				finds(t, row(ahead, spoilt, blanks(60)), n)
				finds(t, row(ahead, spoilt, behind), n)
			}
		}
	}
}

// P16.2: each other byte at each place of a record: it is not found.
func TestSpoilt(t *testing.T) {
	for _, length := range []int{1, 2, 40} {
		whole := record(300, mixed(length))
		for at := range whole {
			for x := 1; x < 256; x++ {
				spoilt := bytes.Clone(whole)
				spoilt[at] ^= byte(x)
				finds(t, row(spoilt, record(301, []byte("a")), blanks(60)), 0)
				finds(t, row(record(299, []byte("a")), spoilt, record(301, []byte("a"))), 1)
			}
		}
	}
}

// P16.2: what has no data, or more than 40 bytes, is no record, though its first byte tells its data rightly, its sum fits, and 0 is behind it.
func TestNoSuchLength(t *testing.T) {
	for n := range 256 {
		want := 0
		if n >= 1 && n <= 40 {
			want = 1
		}
		b := laid(byte(n), 5, mixed(n), 0)
		finds(t, b, want)
		finds(t, row(b, blanks(300)), want)
		finds(t, row(b, record(6, []byte("a"))), 2*want)
		finds(t, row(record(4, []byte("a")), b, record(6, []byte("a"))), 1+2*want)
	}
}

// P16.2: a first byte that tells more bytes of data than there are, or fewer, is no record, though the sum is that of all of them. (But with bytes 0 behind, one that tells more is: what is sealed, with 0 behind it, is sealed again, and the sum is data then.)
func TestWrongLength(t *testing.T) {
	for n := range 45 {
		for first := range 256 {
			if first == n {
				continue
			}
			want := 0
			if first > n && first <= 40 {
				want = 1
			}
			b := laid(byte(first), 5, mixed(n), 0)
			finds(t, b, 0)
			finds(t, row(b, blanks(300)), 0)
			finds(t, row(b, make([]byte, 300)), want)
			finds(t, row(record(4, []byte("ab")), b, make([]byte, 50)), 1+want)
		}
	}
}

// P16.2: a byte behind that is not 0, where all else is right.
func TestNotClosed(t *testing.T) {
	for _, n := range []int{1, 2, 20, 39, 40} {
		for behind := range 256 {
			want := 0
			if behind == 0 {
				want = 1
			}
			b := laid(byte(n), 5, mixed(n), byte(behind))
			finds(t, b, want)
			finds(t, row(b, make([]byte, 9)), want)
			finds(t, row(record(4, []byte("a")), b, record(6, []byte("b"))), 1+2*want)
		}
	}
}

// P16.2: a record that ends just at b's end is whole; of one byte less it is not, at each place where it may begin.
func TestAtEnd(t *testing.T) {
	for _, length := range []int{1, 2, 39, 40} {
		for n := range 6 {
			b := row(row(records(50, n)...), record(50+uint32(n), mixed(length)))
			finds(t, b, n+1)
			if last, ok := bank.Last(b); !ok || last.End != len(b) {
				t.Fatalf("of %d bytes: %v, %t", len(b), last, ok)
			}
			finds(t, b[:len(b)-1], n)
			finds(t, row(b, []byte{0xff}), n+1)
		}
	}
}

// P16.2: records that do not begin with b's first byte, or with the one behind another record, are not found, whatever stands ahead of them.
func TestApart(t *testing.T) {
	for gap := 1; gap < 60; gap++ {
		all := row(records(20, 3)...)
		for _, between := range [][]byte{blanks(gap), make([]byte, gap), mixed(gap)} {
			finds(t, row(between, all), 0)
			finds(t, row(record(19, []byte("a")), between, all), 1)
		}
	}
}

// P16.2: memory behind b, in its spare room, is not b: a record that stands there, or that goes on there, is not found.
func TestSpareRoom(t *testing.T) {
	b := row(records(20, 4)...)
	ends := []int{0}
	for _, x := range find(b) {
		ends = append(ends, x.end)
	}
	for n := range len(b) + 1 {
		want := 0
		for want < 4 && ends[want+1] <= n {
			want++
		}
		finds(t, b[:n], want)
	}
}

// P16.2: what stands in a record's data is not found, though it is a record itself.
func TestWithin(t *testing.T) {
	inner := row(record(6, []byte("a")), record(7, []byte("b")))
	finds(t, record(5, inner), 1)
	finds(t, row(record(5, inner), inner), 3)
	finds(t, row(record(5, inner), record(6, inner), record(7, inner)), 3)
	spoilt := record(5, inner)
	spoilt[1] ^= 1
	finds(t, spoilt, 0)
}

// allBlank tells of each byte of b from the place from on whether it is ff, by going over all of them.
func allBlank(b []byte, from int) bool {
	for at, x := range b {
		if at >= from && x != 0xff {
			return false
		}
	}
	return true
}

// froms are places in and around n bytes, at the ends of those that there are, and those that look like places in them as fewer bits.
func froms(n int) []int {
	return []int{api.MinInt, api.MinInt + 1, -1 << 32, -1<<32 + 1, -n - 1, -n, -n + 1, -2, -1, 0, 1, n / 2, n - 2, n - 1, n, n + 1, n + 2, 1<<31 - 1, 1 << 31, 1 << 32, 1<<32 + 1, 1<<32 + n, 1 << 62, api.MaxInt - n, api.MaxInt - 1, api.MaxInt}
}

// isBlank holds what Blank tells of b and from.
func isBlank(t *testing.T, b []byte, from int, want bool) {
	t.Helper()
	if got := bank.Blank(b, from); got != want {
		t.Fatalf("Blank(% x, %d): %t", b[:min(len(b), 60)], from, got)
	}
}

// P16.3: Blanks told one by one.
func TestBlankKnown(t *testing.T) {
	for _, x := range []struct {
		b    string
		from int
		want bool
	}{
		{"", 0, true}, {"", -1, true}, {"", 1, true}, {"", api.MinInt, true}, {"", api.MaxInt, true},
		{"\xff", 0, true}, {"\xff", -1, true}, {"\xff", 1, true}, {"\xff", api.MinInt, true}, {"\xff", api.MaxInt, true},
		{"\x00", 0, false}, {"\x00", -1, false}, {"\x00", 1, true}, {"\x00", 2, true}, {"\x00", api.MinInt, false}, {"\x00", api.MaxInt, true},
		{"a\xff\xff", 0, false}, {"a\xff\xff", -1, false}, {"a\xff\xff", 1, true}, {"a\xff\xff", 2, true}, {"a\xff\xff", 3, true}, {"a\xff\xff", 4, true},
		{"\xffa\xff", 0, false}, {"\xffa\xff", 1, false}, {"\xffa\xff", 2, true}, {"\xffa\xff", -2, false},
		{"\xff\xffa", 0, false}, {"\xff\xffa", 1, false}, {"\xff\xffa", 2, false}, {"\xff\xffa", 3, true}, {"\xff\xffa", -3, false},
		{"\xff\xff\xff", 0, true}, {"\xff\xff\xff", api.MinInt, true}, {"\xff\xff\xff", api.MaxInt, true},
	} {
		isBlank(t, []byte(x.b), x.from, x.want)
	}
	for _, from := range froms(0) {
		isBlank(t, nil, from, true)
	}
}

// P16.3: bytes that are all ff, and such of which one is not, at each place, by each number that a byte may have, from all places on.
func TestBlank(t *testing.T) {
	for n := range 12 {
		for from := -n - 3; from < n+4; from++ {
			isBlank(t, blanks(n), from, true)
			for at := range n {
				for x := range 256 {
					b := blanks(n)
					b[at] = byte(x)
					isBlank(t, b, from, at < from || x == 255)
				}
			}
		}
	}
	for _, n := range []int{1, 2, 60, 255, 256, 257, 4096} {
		for _, from := range froms(n) {
			isBlank(t, blanks(n), from, true)
			isBlank(t, make([]byte, n), from, from >= n)
			for _, at := range []int{0, 1, n / 2, n - 2, n - 1, from - 1, from, from + 1} {
				if at < 0 || at >= n {
					continue
				}
				for _, x := range []byte{0, 1, 0x7f, 0xef, 0xfe} {
					b := blanks(n)
					b[at] = x
					isBlank(t, b, from, allBlank(b, from))
					isBlank(t, b, at, false)
					isBlank(t, b, at+1, true)
				}
			}
		}
	}
}

// P16.3: what stands in b's spare room is not of b.
func TestBlankSpareRoom(t *testing.T) {
	b := append(blanks(9), 0, 1, 2)
	for _, from := range froms(9) {
		isBlank(t, b[:9], from, true)
	}
}

// P16.3: by dice: of bytes few of which are not ff.
func TestBlankByDice(t *testing.T) {
	d := dice(3)
	for range 20000 {
		n := d.below(50)
		b := blanks(n)
		for range d.below(4) {
			if n > 0 {
				b[d.below(n)] = byte(d.below(256))
			}
		}
		from := d.below(n+6) - 3
		isBlank(t, b, from, allBlank(b, from))
	}
}

// roomy is b with spare room behind it that is neither ff nor 0, and all of that memory.
func roomy(b []byte) (part, whole []byte) {
	whole = append(bytes.Clone(b), "spare room, more than there is behind"...)
	return whole[:len(b)], whole
}

// spoil changes b, and its spare room.
func spoil(b []byte) {
	whole := b[:cap(b)]
	for i := range whole {
		whole[i] ^= 0xa5
	}
}

// P16.4, W6: Print neither changes data, nor its spare room, nor keeps them.
func TestPrintKeepsNothing(t *testing.T) {
	for n := range api.MaxNote + 3 {
		part, whole := roomy(mixed(n))
		before := bytes.Clone(whole)
		b, ok := bank.Print(5, part)
		if !bytes.Equal(whole, before) {
			t.Fatalf("Print changed its %d bytes, or what lies behind them", n)
		}
		spoil(whole)
		if ok && !bytes.Equal(b, record(5, mixed(n))) {
			t.Fatalf("the record of %d bytes changed with what was handed in", n)
		}
		spoilt := bytes.Clone(whole)
		spoil(b)
		if !bytes.Equal(whole, spoilt) {
			t.Fatalf("the record of %d bytes shares memory with what was handed in", n)
		}
	}
}

// P16.4, W6: what Print answers is new memory, spare room too.
func TestPrintNew(t *testing.T) {
	for n := 1; n <= api.MaxNote; n++ {
		first, second := printed(t, 5, mixed(n)), printed(t, 5, mixed(n))
		before := bytes.Clone(second[:cap(second)])
		spoil(first)
		if !bytes.Equal(second[:cap(second)], before) {
			t.Fatalf("two records of %d bytes share memory", n)
		}
		prints(t, 5, mixed(n))
		two := append(second, record(6, []byte("a"))...)
		prints(t, 5, mixed(n))
		finds(t, two, 2)
	}
}

// rows are rows of records, with and without bytes behind them.
func rows() [][]byte {
	all := [][]byte{nil, {}, blanks(20), make([]byte, 20), mixed(60)}
	for _, n := range []int{1, 2, 3, 8, 9, 17} {
		whole := row(records(250, n)...)
		all = append(all, whole, row(whole, blanks(30)), row(whole, mixed(30)), row(whole, whole), whole[:len(whole)-1])
	}
	return all
}

// P16.4, W6: Notes, Last and Blank neither change b, nor its spare room; written over behind the call, it changes nothing that was answered.
func TestFindKeepsNothing(t *testing.T) {
	for _, b := range rows() {
		part, whole := roomy(b)
		before := bytes.Clone(whole)
		notes := bank.Notes(part)
		last, ok := bank.Last(part)
		for _, from := range froms(len(b)) {
			bank.Blank(part, from)
		}
		if !bytes.Equal(whole, before) {
			t.Fatalf("the %d bytes changed, or what lies behind them", len(b))
		}
		spoil(whole)
		all := find(b)
		if !slices.EqualFunc(notes, all, same) || ok && !same(last, all[len(all)-1]) {
			t.Fatalf("%v, %v changed with what was handed in", notes, last)
		}
	}
}

// P16.4, W6: what is answered is new memory, spare room too: each record's data, written over, changes neither b, nor its spare room, nor another record, nor another answer.
func TestFindNew(t *testing.T) {
	for _, b := range rows() {
		part, whole := roomy(b)
		before, all := bytes.Clone(whole), find(b)
		for at := range all {
			notes, others := bank.Notes(part), bank.Notes(part)
			last, _ := bank.Last(part)
			spoil(notes[at].Data)
			for i, n := range notes {
				if i != at && !same(n, all[i]) {
					t.Fatalf("record %d of %d changed with record %d", i, len(all), at)
				}
			}
			if !bytes.Equal(whole, before) || !slices.EqualFunc(others, all, same) || !same(last, all[len(all)-1]) {
				t.Fatalf("record %d of %d shares memory with b, or with another answer", at, len(all))
			}
			again, _ := bank.Last(part)
			spoil(last.Data)
			if !bytes.Equal(whole, before) || !slices.EqualFunc(others, all, same) || !same(again, all[len(all)-1]) {
				t.Fatalf("the last of %d shares memory with b, or with another answer", len(all))
			}
			isAll(t, part, all)
		}
	}
}

// P16.4, W6: the list that Notes answers is new, spare room too: its items, written over, change no other answer; and to go on behind a record's data changes no other record.
func TestNotesNew(t *testing.T) {
	for _, b := range rows() {
		all := find(b)
		notes, others := bank.Notes(b), bank.Notes(b)
		for i := range notes {
			notes[i].Data = append(notes[i].Data, "more than there is room for behind it, as it may have some"...)
			if !slices.EqualFunc(notes[i+1:], all[i+1:], same) {
				t.Fatalf("records of %d lie one behind the other in memory", len(all))
			}
		}
		notes = notes[:cap(notes)]
		for i := range notes {
			notes[i] = api.Note{Seq: 9, Data: []byte("zz"), End: -1}
		}
		if !slices.EqualFunc(others, all, same) {
			t.Fatalf("two lists of %d records share memory", len(all))
		}
		isAll(t, b, all)
	}
}

// P16.5: what was printed, one behind the other, from any number on, is found as it was, with blank bytes behind it; from the last one's end on all is blank, and not from one place ahead.
func TestPrintedIsFound(t *testing.T) {
	d := dice(5)
	for _, seq := range seqs() {
		var b []byte
		var all []told
		for n := range min(most-int(seq)+1, 30) {
			data := d.bytes(d.below(api.MaxNote) + 1)
			b = append(b, printed(t, seq+uint32(n), data)...)
			all = append(all, told{seq + uint32(n), string(data), len(b)})
			for _, behind := range []int{0, 1, 8, 48, 100} {
				isAll(t, row(b, blanks(behind)), all)
				isBlank(t, row(b, blanks(behind)), len(b), true)
				isBlank(t, row(b, blanks(behind)), len(b)-1, false)
			}
		}
	}
}

// P16.5: of a record of which only the first bytes were written over blank ones nothing is found, and those ahead of it are found as they were.
func TestPartlyWritten(t *testing.T) {
	for _, n := range []int{0, 1, 2, 6} {
		for _, seq := range []uint32{0, 5, 255, 1<<31 - 3, most - 7, most - uint32(n)} {
			ahead := row(records(seq, n)...)
			for length := 1; length <= api.MaxNote; length++ {
				for _, data := range [][]byte{mixed(length), blanks(length), make([]byte, length)} {
					whole := printed(t, seq+uint32(n), data)
					for _, behind := range []int{0, 1, 50} {
						b := row(ahead, blanks(len(whole)+behind))
						for written := range whole {
							finds(t, b, n)
							b[len(ahead)+written] = whole[written]
						}
						finds(t, b, n+1)
						isBlank(t, b, len(ahead)+len(whole), true)
						isBlank(t, b, len(ahead)+len(whole)-1, false)
					}
				}
			}
		}
	}
}

// P16.2, P16.5: by dice: rows of records, some of which are spoilt, left out, cut, or told another number, held against the model.
func TestByDice(t *testing.T) {
	d := dice(16)
	for range 30000 {
		seq := seqs()[d.below(len(seqs()))]
		var b []byte
		for range d.below(8) {
			r := record(seq, d.bytes(d.below(api.MaxNote)+1))
			switch d.below(12) {
			case 0:
				r[d.below(len(r))] ^= 1 << d.below(8)
			case 1:
				r = r[:d.below(len(r))]
			case 2:
				seq += uint32(d.below(3))
			case 3:
				r = nil
			}
			seq++
			b = append(b, r...)
		}
		b = append(b, blanks(d.below(3)*10)...)
		isAll(t, b, find(b))
	}
}
