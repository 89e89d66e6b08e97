package journal_test

import (
	"bytes"
	"errors"
	"slices"
	"strings"
	"testing"

	"crossbuck/api"
	"crossbuck/crc"
	"crossbuck/fault"
	"crossbuck/journal"
	"crossbuck/store"
)

const (
	most   = 1<<32 - 1 // the greatest number that a record may have
	around = 8         // bytes of a record beside its data
	never  = -1        // of a store that will not die
)

// dice are numbers that look like no rule, the same at each run.
type dice uint64

func (d *dice) below(n int) int {
	*d = *d*6364136223846793005 + 1442695040888963407
	return int(uint64(*d)>>33) % n
}

// mixed is n bytes that look like no rule, none of them ff, the same ones each time.
func mixed(n int) []byte {
	d := dice(n + 4711)
	b := make([]byte, n)
	for i := range b {
		b[i] = byte(d.below(255))
	}
	return b
}

// blanks is n bytes that were never written.
func blanks(n int) []byte {
	return bytes.Repeat([]byte{0xff}, n)
}

// record is a record, laid by hand.
func record(seq int, data []byte) []byte {
	b := append([]byte{byte(len(data)), byte(seq >> 24), byte(seq >> 16), byte(seq >> 8), byte(seq)}, data...)
	return append(crc.Seal(b), 0)
}

// records is so many records from the number seq on, of data of n bytes each.
func records(seq, many, n int) []byte {
	var all []byte
	for i := range many {
		all = append(all, record(seq+i, mixed(n))...)
	}
	return all
}

// filled is so many bytes, the first of which are b.
func filled(b []byte, n int) []byte {
	return append(bytes.Clone(b), blanks(n-len(b))...)
}

// seqs are numbers of records, at their edges.
func seqs() []int {
	return []int{0, 1, 2, 255, 256, 65535, 65536, 1<<24 - 1, 1 << 24, 1<<31 - 1, 1 << 31, 1<<31 + 1, most - 2, most - 1, most}
}

// sizes are stores whose banks take no record at all, just one, and more, odd ones too.
func sizes() []int {
	return []int{0, 1, 2, 3, 16, 17, 18, 19, 20, 36, 37, 60, 61, 95, 96, 97, 98, 200, 65535, 65536}
}

// last is what is found of a bank.
type last struct {
	had  bool
	seq  int
	data string
	end  int
}

// lastOf finds a bank's last record byte by byte.
func lastOf(b []byte) last {
	var l last
	for l.seq < most {
		rest := b[l.end:]
		if len(rest) == 0 || rest[0] < 1 || rest[0] > 40 {
			return l
		}
		n := int(rest[0]) + around
		if len(rest) < n || rest[n-1] != 0 {
			return l
		}
		o, ok := crc.Open(rest[:n-1])
		if !ok {
			return l
		}
		seq := int(o[1])<<24 | int(o[2])<<16 | int(o[3])<<8 | int(o[4])
		if l.had && seq != l.seq+1 {
			return l
		}
		l = last{true, seq, string(o[5:]), l.end + n}
	}
	return l
}

// model does what the document says, byte by byte, beside the journal that is held against it.
type model struct {
	t    *testing.T
	s    *store.Store
	j    *journal.Journal
	row  []byte
	dead bool
	left int // bytes till the store dies
	bank int // 0, or 1
	last last
}

// opened is a journal over a store of these bytes.
func opened(t *testing.T, row []byte) *model {
	t.Helper()
	m := &model{t: t, s: store.New(len(row)), row: bytes.Clone(row), left: never}
	if err := m.s.Write(0, row); err != nil {
		t.Fatal(err)
	}
	m.reopen()
	return m
}

// inBanks is a journal over two banks of so many bytes, and, if odd, a byte behind them that is not ff.
func inBanks(t *testing.T, first, second []byte, size int, odd bool) *model {
	t.Helper()
	row := append(filled(first, size), filled(second, size)...)
	if odd {
		row = append(row, 0x5a)
	}
	return opened(t, row)
}

func (m *model) size() int {
	return (len(m.row) - len(m.row)%2) / 2
}

// reopen opens another journal over the same store, and holds what it tells.
func (m *model) reopen() {
	m.t.Helper()
	m.j = journal.Open(m.s)
	first, second := lastOf(m.row[:m.size()]), lastOf(m.row[m.size():2*m.size()])
	m.bank, m.last = 0, first
	if second.had && !first.had || second.had && first.had && second.seq > first.seq {
		m.bank, m.last = 1, second
	}
	m.holds()
}

// holds holds all bytes of the store, and what the journal tells; asked twice, for being asked changes nothing.
func (m *model) holds() {
	m.t.Helper()
	for range 2 {
		if got := m.s.Read(0, len(m.row)); !bytes.Equal(got, m.row) {
			m.t.Fatalf("the store: % x, not % x", got[:min(len(got), 200)], m.row[:min(len(m.row), 200)])
		}
		if got := m.s.Dead(); got != m.dead {
			m.t.Fatalf("the store dead: %t", got)
		}
		m.tells(m.j)
	}
}

// tells holds that j tells the last record.
func (m *model) tells(j *journal.Journal) {
	m.t.Helper()
	data, ok := j.Last()
	if ok != m.last.had || string(data) != m.last.data || j.Seq() != uint32(m.last.seq) {
		m.t.Fatalf("Last: % x, %t, Seq %d: not %+v", data, ok, j.Seq(), m.last)
	}
}

// isLast holds that the last record is that, told by itself, not by the model.
func (m *model) isLast(had bool, seq int, data string) {
	m.t.Helper()
	if m.last.had != had || m.last.seq != seq || m.last.data != data {
		m.t.Fatalf("the last record is %+v, not %t, %d, % x", m.last, had, seq, data)
	}
	m.holds()
}

// put lets the model write b from the place at on.
func (m *model) put(at int, b []byte) api.Errno {
	for i, x := range b {
		if m.left == 0 {
			m.dead = true
		}
		if m.dead {
			return api.ErrDead
		}
		if m.left > 0 {
			m.left--
		}
		m.row[at+i] = x
	}
	return api.OK
}

// goesOn tells whether n bytes more go to the journal's bank.
func (m *model) goesOn(n int) bool {
	bank := m.row[m.bank*m.size() : (m.bank+1)*m.size()]
	for _, x := range bank[m.last.end:] {
		if x != 0xff {
			return false
		}
	}
	return len(bank)-m.last.end >= n
}

// note lets the model append: the error that the document tells.
func (m *model) note(data []byte) api.Errno {
	if len(data) < 1 || len(data) > 40 {
		return api.ErrArg
	}
	r := record(m.last.seq+1, data)
	if len(r) > m.size() || m.last.seq == most {
		return api.ErrFull
	}
	bank, end := m.bank, m.last.end
	if !m.goesOn(len(r)) {
		bank, end = 1-m.bank, 0
		if e := m.put(bank*m.size(), blanks(m.size())); e != api.OK {
			return e
		}
	}
	if e := m.put(bank*m.size()+end, r); e != api.OK {
		return e
	}
	m.bank, m.last = bank, last{true, m.last.seq + 1, string(data), end + len(r)}
	return api.OK
}

// add appends to both, and holds the answer, and what there is then.
func (m *model) add(data []byte) api.Errno {
	m.t.Helper()
	want := m.note(data)
	if err := m.j.Append(data); !isError(err, want) {
		m.t.Fatalf("Append of %d bytes behind %+v, bank %d of %d bytes: %v, not %v", len(data), m.last, m.bank, m.size(), err, want)
	}
	m.holds()
	return want
}

// tellsOf holds that of data the error e is told, or none.
func (m *model) tellsOf(data []byte, e api.Errno) {
	m.t.Helper()
	if got := m.add(data); got != e {
		m.t.Fatalf("Append of %d bytes: %v, not %v", len(data), got, e)
	}
}

// adds holds that data is appended, and another journal finds it.
func (m *model) adds(data []byte) {
	m.t.Helper()
	m.tellsOf(data, api.OK)
	m.tells(journal.Open(m.s))
}

// refuses holds that data is refused with the error e, and that not a byte was to be written: a store that is to die at the first one lives.
func (m *model) refuses(data []byte, e api.Errno) {
	m.t.Helper()
	m.tellsOf(data, e)
	m.kill(0)
	m.tellsOf(data, e)
	m.revive()
}

func (m *model) kill(after int) {
	m.s.Kill(after)
	m.left = after
}

func (m *model) revive() {
	m.t.Helper()
	m.s.Revive()
	m.dead, m.left = false, never
	m.holds()
}

// isError tells whether err is an error of layer 1 of that number, told with the journal's place and what lies behind that, or, of OK, none.
func isError(err error, e api.Errno) bool {
	if e == api.OK {
		return err == nil
	}
	return err != nil && fault.Code(err) == e && fault.Is(err, e) && errors.Is(err, e) && len(fault.Path(err)) > 1 && strings.HasPrefix(err.Error(), "journal, ")
}

// P17.1, P17.2: the document's example: a store of 60 bytes, Append of a, and b: Last is b, Seq 2.
func TestExample(t *testing.T) {
	s := store.New(60)
	j := journal.Open(s)
	if data, ok := j.Last(); ok || len(data) != 0 || j.Seq() != 0 {
		t.Fatalf("ahead: %q, %t, %d", data, ok, j.Seq())
	}
	if err := j.Append([]byte("a")); err != nil {
		t.Fatal(err)
	}
	if err := j.Append([]byte("b")); err != nil {
		t.Fatal(err)
	}
	for _, j := range []*journal.Journal{j, journal.Open(s)} {
		if data, ok := j.Last(); !ok || string(data) != "b" || j.Seq() != 2 {
			t.Fatalf("Last: %q, %t, Seq %d", data, ok, j.Seq())
		}
	}
	want := "\x01\x00\x00\x00\x01a\x04\x06\x00" + "\x01\x00\x00\x00\x02b\x61\x36\x00" + string(blanks(42))
	if got := s.Read(0, 60); string(got) != want {
		t.Fatalf("the store: % x, not % x", got, want)
	}
}

// P17.1: in a store that is blank, and of bytes that are no records, there is none, however many bytes it has.
func TestOpenNone(t *testing.T) {
	for _, n := range sizes() {
		j := journal.Open(store.New(n))
		if data, ok := j.Last(); ok || len(data) != 0 || j.Seq() != 0 {
			t.Fatalf("of %d bytes: % x, %t, %d", n, data, ok, j.Seq())
		}
		for _, b := range [][]byte{blanks(n), make([]byte, n), mixed(n), bytes.Repeat([]byte{1}, n), bytes.Repeat([]byte{40}, n), bytes.Repeat([]byte{0xfe}, n)} {
			opened(t, b).isLast(false, 0, "")
		}
	}
}

// P17.1: stores told one by one, of 60 bytes and of 61.
func TestOpenKnown(t *testing.T) {
	a, b, def := "\x01\x00\x00\x00\x01a\x04\x06\x00", "\x01\x00\x00\x00\x02b\x61\x36\x00", "\x03\x00\x00\x00\x03def\xdd\x83\x00"
	zero, one := "\x01\x00\x00\x00\x00z\x94\x6d\x00", "\x01\x00\x00\x00\x01z\xa7\x5c\x00"
	final, half := "\x01\xff\xff\xff\xffy\x79\x9e\x00", "\x01\x80\x00\x00\x00h\x84\xce\x00"
	for _, x := range []struct {
		first, second string
		had           bool
		seq           int
		data          string
	}{
		{"", "", false, 0, ""},
		{a, "", true, 1, "a"}, {"", a, true, 1, "a"},
		{a + b, "", true, 2, "b"}, {"", a + b, true, 2, "b"},
		{a + b + def, "", true, 3, "def"}, {"", a + b + def, true, 3, "def"},
		{a, b, true, 2, "b"}, {b, a, true, 2, "b"},
		{a + b, def, true, 3, "def"}, {def, a + b, true, 3, "def"}, {def, a, true, 3, "def"}, {a, def, true, 3, "def"},
		{a, one, true, 1, "a"}, {one, a, true, 1, "z"}, {a, zero + one, true, 1, "a"}, {zero + one, a, true, 1, "z"},
		{a + b, one, true, 2, "b"}, {one, a + b, true, 2, "b"}, {b, a + b + def, true, 3, "def"},
		{zero, "", true, 0, "z"}, {"", zero, true, 0, "z"}, {zero, a, true, 1, "a"}, {a, zero, true, 1, "a"},
		{final, "", true, most, "y"}, {"", final, true, most, "y"}, {final, zero, true, most, "y"}, {zero, final, true, most, "y"},
		{half, a + b + def, true, 1 << 31, "h"}, {a + b + def, half, true, 1 << 31, "h"}, {half, final, true, most, "y"}, {final, half, true, most, "y"},
		{a + def, "", true, 1, "a"}, {a + def, b, true, 2, "b"}, {b + a, def + b, true, 3, "def"}, {a + "\x00", zero + "\x00", true, 1, "a"},
		{"\xff" + a, "", false, 0, ""}, {"\x00" + a, zero, true, 0, "z"}, {a[1:], b[:8], false, 0, ""}, {a[:8] + "\x01", b, true, 2, "b"},
	} {
		for _, odd := range []bool{false, true} {
			inBanks(t, []byte(x.first), []byte(x.second), 30, odd).isLast(x.had, x.seq, x.data)
		}
	}
}

// P17.1: numbers at their edges, each in the one bank beside each in the other: the greater one counts, and of the same one the first bank's.
func TestOpenNumbers(t *testing.T) {
	for _, one := range seqs() {
		first := record(one, []byte("first"))
		inBanks(t, first, nil, 60, false).isLast(true, one, "first")
		inBanks(t, nil, first, 60, true).isLast(true, one, "first")
		for _, two := range seqs() {
			second := record(two, []byte("second"))
			want := "first"
			if two > one {
				want = "second"
			}
			inBanks(t, first, second, 60, false).isLast(true, max(one, two), want)
			inBanks(t, first, second, 60, true).isLast(true, max(one, two), want)
		}
	}
}

// P17.1: several records in a bank: the last one of each counts, neither the first one nor how many there are.
func TestOpenMany(t *testing.T) {
	for n := 1; n < 8; n++ {
		for other := range 8 {
			for _, seq := range []int{0, 1, 5, 254, 1<<31 - 3, most - 20} {
				for shift := range 10 {
					inBanks(t, records(seq, n, 3), records(seq+shift, other, 2), 100, shift%2 == 0)
					inBanks(t, records(seq+shift, other, 2), records(seq, n, 3), 100, shift%2 == 1)
				}
			}
		}
	}
	many := inBanks(t, records(1, 2978, 3), records(2000, 680, 40), 32768, false)
	many.isLast(true, 2978, string(mixed(3)))
	many = inBanks(t, records(1, 2978, 3), records(2300, 680, 40), 32767, true)
	many.isLast(true, 2979, string(mixed(40)))
}

// P17.1: behind whole records one that is torn, at each byte, or spoilt, at each bit: the whole ones are told, or that of the other bank, if that has a greater number.
func TestOpenTorn(t *testing.T) {
	for many := range 3 {
		ahead, next := records(7, many, 4), record(7+many, []byte("torn"))
		var bad [][]byte
		for cut := range next {
			bad = append(bad, next[:cut])
		}
		for bit := range 8 * len(next) {
			spoilt := bytes.Clone(next)
			spoilt[bit/8] ^= 1 << (bit % 8)
			bad = append(bad, spoilt, append(spoilt, record(8+many, []byte("a"))...))
		}
		for _, x := range bad {
			b := slices.Concat(ahead, x)
			if many == 0 {
				inBanks(t, b, nil, 60, true).isLast(false, 0, "")
				inBanks(t, nil, b, 60, false).isLast(false, 0, "")
				inBanks(t, b, record(0, []byte("a")), 60, false).isLast(true, 0, "a")
				continue
			}
			inBanks(t, b, nil, 60, true).isLast(true, 6+many, string(mixed(4)))
			inBanks(t, nil, b, 60, false).isLast(true, 6+many, string(mixed(4)))
			inBanks(t, b, record(6+many, []byte("a")), 60, false).isLast(true, 6+many, string(mixed(4)))
			inBanks(t, record(6+many, []byte("a")), b, 60, true).isLast(true, 6+many, "a")
			inBanks(t, b, record(7+many, []byte("a")), 60, true).isLast(true, 7+many, "a")
			inBanks(t, record(5+many, []byte("a")), b, 60, false).isLast(true, 6+many, string(mixed(4)))
		}
	}
}

// P17.1: a record that reaches over its bank's end is none of it, nor are its bytes any of the other bank's, or the odd byte any of the second one's; one that ends just there is.
func TestOpenOverEnd(t *testing.T) {
	for _, length := range []int{1, 2, 5, 39, 40} {
		r := record(7, mixed(length))
		for size := 1; size < 2*len(r); size++ {
			for many := range 3 {
				row := filled(append(records(6-many+1, many, 1), r...), max(2*size, len(r)+many*9))[:2*size]
				m := opened(t, row)
				fits, begins := many*9+len(r) <= size, many*9 == size && len(r) <= size
				if (m.last.seq == 7) != (fits || begins) || fits && m.last.end != many*9+len(r) {
					t.Fatalf("banks of %d bytes, %d ahead: %+v", size, many, m.last)
				}
			}
			opened(t, append(blanks(size-1), filled(r, size+1+len(r))[:size+1]...)).isLast(false, 0, "")
			opened(t, append(blanks(size+1), filled(r, size+len(r))[:size]...)).isLast(false, 0, "")
		}
		n := len(r)
		opened(t, append(blanks(n), r...)).isLast(true, 7, string(mixed(length)))
		opened(t, append(append(blanks(n), r...), 0)).isLast(true, 7, string(mixed(length)))
		opened(t, append(blanks(n-1), r...)).isLast(false, 0, "")
		opened(t, append(blanks(n+1), r...)).isLast(false, 0, "")
		opened(t, append(r, blanks(n-1)...)).isLast(false, 0, "")
		opened(t, append(r, blanks(n)...)).isLast(true, 7, string(mixed(length)))
	}
}

// P17.1: a store that is dead, or is to die, is read as any other; nothing is written by it.
func TestOpenDead(t *testing.T) {
	m := inBanks(t, records(3, 2, 5), records(5, 1, 7), 40, true)
	m.kill(0)
	m.reopen()
	m.isLast(true, 5, string(mixed(7)))
	m.tellsOf([]byte("a"), api.ErrDead)
	m.reopen()
	m.isLast(true, 5, string(mixed(7)))
	m.revive()
	m.reopen()
	m.adds([]byte("a"))
}

// P17.1: two journals, over two stores, know nothing of each other.
func TestTwo(t *testing.T) {
	one, two := opened(t, blanks(60)), inBanks(t, records(70, 1, 5), nil, 60, true)
	for n := range 20 {
		one.adds(mixed(n%20 + 1))
		two.holds()
		two.adds(mixed(n%40 + 1))
		one.holds()
	}
	one.isLast(true, 20, string(mixed(20)))
	two.isLast(true, 90, string(mixed(20)))
}

// lengths are how many bytes Append is given.
func lengths() []int {
	return []int{0, 1, 2, 3, 20, 38, 39, 40, 41, 42, 48, 49, 127, 128, 255, 256, 257, 258, 296, 297, 300, 512, 513, 1000, 65536, 65537, 65576}
}

// P17.2: from 1 to 40 bytes are appended, fewer and more are not, where banks have room for all; the first number is 1, each one more behind that.
func TestLengths(t *testing.T) {
	for _, size := range []int{48, 49, 300, 32768} {
		m := opened(t, blanks(2*size))
		m.refuses(nil, api.ErrArg)
		m.refuses([]byte{}, api.ErrArg)
		many := 0
		for _, n := range lengths() {
			for _, data := range [][]byte{mixed(n), make([]byte, n), blanks(n)} {
				if n >= 1 && n <= 40 {
					m.adds(data)
					many++
					m.isLast(true, many, string(data))
				} else {
					m.refuses(data, api.ErrArg)
				}
			}
		}
	}
}

// P17.2: each byte that there may be, at each place of the data.
func TestData(t *testing.T) {
	m := opened(t, blanks(1001))
	for _, n := range []int{1, 2, 40} {
		for at := range n {
			for x := range 256 {
				data := mixed(n)
				data[at] = byte(x)
				m.tellsOf(data, api.OK)
			}
		}
	}
}

// P17.2: a record of just as many bytes as a bank has is appended, over and over, from bank to bank; one of a byte more is refused, and of more as well.
func TestBankRoom(t *testing.T) {
	for n := 1; n <= api.MaxNote; n++ {
		for _, odd := range []int{0, 1} {
			m := opened(t, append(blanks(2*(n+around)), blanks(odd)...))
			for many := range 5 {
				m.adds(mixed(n))
				m.isLast(true, many+1, string(mixed(n)))
				if n < api.MaxNote {
					m.refuses(mixed(n+1), api.ErrFull)
					m.refuses(mixed(40), api.ErrFull)
				}
				m.refuses(mixed(41), api.ErrArg)
			}
			m = opened(t, append(blanks(2*(n+around-1)), blanks(odd)...))
			m.refuses(mixed(n), api.ErrFull)
			m.isLast(false, 0, "")
			if n > 1 {
				m.adds(mixed(n - 1))
				m.refuses(mixed(n), api.ErrFull)
			}
		}
	}
}

// P17.2: stores whose banks take no record refuse all.
func TestNoRoom(t *testing.T) {
	for n := range 18 {
		for _, b := range [][]byte{blanks(n), make([]byte, n), mixed(n)} {
			m := opened(t, b)
			for _, length := range lengths() {
				want := api.ErrFull
				if length < 1 || length > 40 {
					want = api.ErrArg
				}
				m.refuses(mixed(length), want)
			}
			m.isLast(false, 0, "")
		}
	}
}

// P17.2: behind the number 2^32 - 1 all is refused, whether there is room or not; ahead of it it is not.
func TestNumbersEnd(t *testing.T) {
	for _, size := range []int{9, 17, 18, 100} {
		for _, first := range []bool{true, false} {
			for _, seq := range []int{most - 2, most - 1, most} {
				one, two := record(seq, []byte("a")), []byte(nil)
				if !first {
					one, two = two, one
				}
				m := inBanks(t, one, two, size, true)
				for next := seq + 1; next <= most; next++ {
					m.adds([]byte("b"))
					m.isLast(true, next, "b")
				}
				m.refuses([]byte("c"), api.ErrFull)
				m.refuses(nil, api.ErrArg)
				m.refuses(mixed(41), api.ErrArg)
				m.reopen()
				m.refuses([]byte("c"), api.ErrFull)
			}
		}
	}
}

// P17.2: numbers at their edges go on by one; behind a record of the number 0 the next one is 1.
func TestNumbers(t *testing.T) {
	for _, seq := range seqs() {
		if seq == most {
			continue
		}
		for _, size := range []int{9, 17, 18, 27, 100} {
			m := inBanks(t, record(seq, []byte("a")), nil, size, true)
			m.adds([]byte("b"))
			m.isLast(true, seq+1, "b")
			m = inBanks(t, nil, record(seq, []byte("a")), size, true)
			m.adds([]byte("b"))
			m.isLast(true, seq+1, "b")
			m = inBanks(t, record(seq, []byte("a")), record(seq, []byte("b")), size, true)
			m.adds([]byte("c"))
			m.isLast(true, seq+1, "c")
		}
	}
}

// P17.2: of several errors ErrArg is told first, then ErrFull, then that of the store.
func TestOrder(t *testing.T) {
	small, final := opened(t, blanks(17)), inBanks(t, record(most, []byte("a")), nil, 30, true)
	narrow := inBanks(t, record(most, mixed(3)), nil, 11, true)
	for _, m := range []*model{small, final, narrow} {
		m.kill(0)
		if err := m.s.Write(0, []byte{1}); fault.Code(err) != api.ErrDead {
			t.Fatal(err)
		}
		m.dead = true
		m.tellsOf(nil, api.ErrArg)
		m.tellsOf([]byte{}, api.ErrArg)
		m.tellsOf(mixed(41), api.ErrArg)
		m.tellsOf(mixed(300), api.ErrArg)
		m.tellsOf([]byte("b"), api.ErrFull)
		m.tellsOf(mixed(40), api.ErrFull)
		m.revive()
		m.refuses(nil, api.ErrArg)
		m.refuses(mixed(41), api.ErrArg)
		m.refuses([]byte("b"), api.ErrFull)
		m.refuses(mixed(40), api.ErrFull)
	}
}

// P17.2: the store, told one by one behind each call: banks of 20 bytes, and an odd byte.
func TestRowsKnown(t *testing.T) {
	a, bc, d, ef := "\x01\x00\x00\x00\x01a\x04\x06\x00", "\x02\x00\x00\x00\x02bc\xce\xc0\x00", "\x01\x00\x00\x00\x03d\x32\xc1\x00", "\x02\x00\x00\x00\x04ef\xb5\x52\x00"
	gh, ij, k := "\x02\x00\x00\x00\x05gh\x05\xce\x00", "\x02\x00\x00\x00\x06ij\x5f\xd3\x00", "\x01\x00\x00\x00\x07k\x0f\xea\x00"
	blank := string(blanks(20))
	s := store.New(41)
	if err := s.Write(20, []byte("what stood here ahead")); err != nil {
		t.Fatal(err)
	}
	j := journal.Open(s)
	for i, x := range []struct{ data, first, second string }{
		{"a", a + blank[9:], "what stood here ahea"},
		{"bc", a + bc + blank[19:], "what stood here ahea"},
		{"d", a + bc + blank[19:], d + blank[9:]},
		{"ef", a + bc + blank[19:], d + ef + blank[19:]},
		{"gh", gh + blank[10:], d + ef + blank[19:]},
		{"ij", gh + ij, d + ef + blank[19:]},
		{"k", gh + ij, k + blank[9:]},
	} {
		err := j.Append([]byte(x.data))
		if got := s.Read(0, 41); err != nil || string(got) != x.first+x.second+"d" {
			t.Fatalf("behind %q: %v, % x, not % x", x.data, err, got, x.first+x.second+"d")
		}
		if data, ok := j.Last(); !ok || string(data) != x.data || j.Seq() != uint32(i+1) {
			t.Fatalf("Last %q, %t, Seq %d", data, ok, j.Seq())
		}
	}
}

// P17.2: a record that has just room behind the end stands there; of a byte more it goes to the other bank, in both banks, whatever that other bank holds.
func TestJustRoom(t *testing.T) {
	for _, ahead := range []int{1, 2, 7, 31, 40} {
		for n := 1; n <= api.MaxNote; n++ {
			for _, room := range []int{-2, -1, 0, 1, 2, 30} {
				size := ahead + around + n + around + room
				if n+around > size {
					continue
				}
				for _, other := range [][]byte{nil, mixed(size), records(3, 1, ahead)} {
					for _, first := range []bool{true, false} {
						one, two := records(50, 1, ahead), other
						if !first {
							one, two = two, one
						}
						m := inBanks(t, one, two, size, n%2 == 0)
						was := m.bank
						m.adds(mixed(n))
						m.isLast(true, 51, string(mixed(n)))
						if (m.bank == was) != (room >= 0) {
							t.Fatalf("room for %d more bytes: bank %d behind %d", room, m.bank, was)
						}
					}
				}
			}
		}
	}
}

// P17.2: where one byte behind the end is not ff, wherever it stands, and whatever it is, the record goes to the other bank; in both banks, with and without records ahead.
func TestNotClean(t *testing.T) {
	const size = 40
	for many := range 3 {
		ahead := records(10, many, 3)
		for at := len(ahead); at < size; at++ {
			for _, x := range []byte{0, 1, 0x28, 0x7f, 0x80, 0xfe} {
				dirty := filled(ahead, size)
				dirty[at] = x
				for _, other := range [][]byte{nil, mixed(size), filled(records(4, 1, 5), size)} {
					m := inBanks(t, dirty, other, size, true)
					was := m.bank
					m.adds([]byte("a"))
					if was == 0 && m.bank != 1 {
						t.Fatalf("%x at %d behind %d records: bank %d", x, at, many, m.bank)
					}
					if many > 0 {
						m = inBanks(t, other, dirty, size, true)
						m.adds([]byte("a"))
						if m.bank != 0 || m.last.seq != 10+many {
							t.Fatalf("%x at %d behind %d records: bank %d, %+v", x, at, many, m.bank, m.last)
						}
					}
				}
			}
		}
	}
}

// P17.2: a byte that is not ff counts however far behind the end it stands, to the last one of the bank.
func TestNotCleanFar(t *testing.T) {
	for _, size := range []int{60, 100, 200, 1000, 32767, 32768} {
		for _, behind := range []int{0, 1, 2, 3, 8, 40, 47, 48, 49, 50, size / 3, size / 2, size - 1} {
			for _, from := range []int{0, size} {
				ahead := record(10, []byte("abc"))
				row := blanks(2 * size)
				copy(row[from:], ahead)
				at := from + max(size-1-behind, len(ahead))
				row[at] = 0xfe
				m := opened(t, row)
				m.adds([]byte("a"))
				if m.bank*size == from {
					t.Fatalf("the byte %d of banks of %d bytes does not count", at, size)
				}
			}
		}
	}
}

// P17.2: whether the other bank is clean does not count, nor does the odd byte behind both, nor the place beside the bank's end.
func TestOtherNotClean(t *testing.T) {
	for _, size := range []int{30, 31, 48} {
		for at := range size {
			for _, x := range []byte{0, 1, 0xfe} {
				dirty := blanks(size)
				dirty[at] = x
				m := inBanks(t, records(10, 1, 3), dirty, size, true)
				m.adds([]byte("abcd"))
				if m.bank != 0 {
					t.Fatal("the second bank's bytes count for the first")
				}
				m = inBanks(t, dirty, records(10, 1, 3), size, true)
				m.adds([]byte("abcd"))
				if m.bank != 1 {
					t.Fatal("the first bank's bytes count for the second, or the odd byte does")
				}
			}
		}
	}
}

// P17.2: the other bank is filled with ff though it is ff already: a store dies in that.
func TestFilledAnyway(t *testing.T) {
	m := inBanks(t, records(10, 1, 12), nil, 20, false)
	m.kill(19)
	m.tellsOf([]byte("a"), api.ErrDead)
	m.revive()
	m.kill(28)
	m.tellsOf([]byte("a"), api.ErrDead)
	m.revive()
	m.kill(29)
	m.tellsOf([]byte("a"), api.OK)
	m.tellsOf([]byte("b"), api.ErrDead)
	m.isLast(true, 11, "a")
}

// P17.2: over and over, through both banks, of all sizes.
func TestRound(t *testing.T) {
	for size := 9; size < 130; size++ {
		d := dice(size)
		m := inBanks(t, nil, mixed(size), size, size%2 == 0)
		turns := 0
		for n := range 200 {
			was := m.bank
			m.adds(mixed(d.below(min(size-around, 40)) + 1))
			if m.bank != was {
				turns++
			}
			if m.last.seq != n+1 {
				t.Fatalf("the number is %d behind %d", m.last.seq, n+1)
			}
			if d.below(10) == 0 {
				m.reopen()
			}
		}
		if turns < 5 {
			t.Fatalf("banks of %d bytes: %d turns", size, turns)
		}
	}
}

// P17.2: great banks, of as many short records as they take, and of long ones.
func TestGreat(t *testing.T) {
	s := store.New(65536)
	j := journal.Open(s)
	for n := range 12000 {
		data := mixed(n%3*19 + 1)
		if err := j.Append(data); err != nil {
			t.Fatal(err)
		}
		if got, ok := j.Last(); !ok || !bytes.Equal(got, data) || j.Seq() != uint32(n+1) {
			t.Fatalf("Last % x, %t, Seq %d", got, ok, j.Seq())
		}
		if n%701 == 0 {
			j = journal.Open(s)
		}
	}
}

// P17.2: the journal's bank, last record and end are those that it wrote itself last, where the banks' records alone would tell the same, and where the store died between.
func TestOwnEnd(t *testing.T) {
	m := inBanks(t, records(10, 2, 3), records(4, 1, 3), 40, true)
	m.kill(4)
	m.tellsOf(mixed(5), api.ErrDead)
	m.revive()
	m.adds(mixed(6))
	if m.bank != 1 {
		t.Fatal("written behind what was torn")
	}
	m.adds(mixed(7))
	m.kill(40 + 3)
	m.tellsOf(mixed(8), api.ErrDead)
	m.revive()
	m.adds(mixed(2))
	if m.bank != 1 || m.last.end != 39 {
		t.Fatalf("what has room behind the end was not written there: bank %d, %+v", m.bank, m.last)
	}
}

// scene is a store, and what is appended to it, with how many bytes are to be written then.
type scene struct {
	name  string
	model func(t *testing.T) *model
	data  []byte
	bytes int
}

func scenes() []scene {
	in := func(first, second []byte) func(t *testing.T) *model {
		return func(t *testing.T) *model { return inBanks(t, first, second, 50, true) }
	}
	return []scene{
		{"into a blank store", in(nil, nil), mixed(9), 17},
		{"behind a record", in(records(5, 1, 6), nil), mixed(9), 17},
		{"behind a record of the second bank", in(records(5, 1, 6), records(6, 2, 6)), mixed(9), 17},
		{"behind a record of the number 0", in(records(0, 1, 6), nil), blanks(9), 17},
		{"just to the bank's end", in(records(5, 1, 6), records(2, 3, 6)), mixed(28), 36},
		{"to the second bank", in(records(5, 3, 6), nil), mixed(9), 67},
		{"to the first bank", in(records(2, 3, 6), records(5, 3, 6)), mixed(9), 67},
		{"to the first bank, blank", in(nil, records(5, 3, 6)), blanks(40), 98},
		{"to the second bank, of the same number", in(records(5, 3, 6), records(5, 3, 6)), mixed(40), 98},
		{"to the second bank, of no records", in(mixed(50), mixed(50)), mixed(1), 59},
		{"to the second bank, of a number less", in(records(5, 3, 6), records(6, 1, 6)), make([]byte, 3), 61},
		{"of the last number", in(records(most-1, 1, 6), nil), mixed(9), 17},
		{"of the last number, to the second bank", in(records(most-3, 3, 6), records(most-4, 3, 6)), mixed(9), 67},
	}
}

// P17.2: the store dies behind each number of bytes of an Append: ErrDead, and Last and Seq are as they were; revived, the same journal goes on, with data of each length, with room behind the end and without; so does one that is opened anew.
func TestDies(t *testing.T) {
	for _, x := range scenes() {
		for after := range x.bytes {
			for n := 1; n <= api.MaxNote; n += 3 {
				for _, anew := range []bool{false, true} {
					m := x.model(t)
					was := m.last
					m.kill(after)
					m.tellsOf(x.data, api.ErrDead)
					if m.last != was || !m.dead {
						t.Fatalf("%s, behind %d bytes: %+v", x.name, after, m.last)
					}
					m.tellsOf(x.data, api.ErrDead)
					m.revive()
					if anew {
						m.reopen()
					}
					m.tellsOf(mixed(n), api.OK)
					m.tells(journal.Open(m.s))
					if m.last.seq < most {
						m.tellsOf(mixed(4), api.OK)
					}
				}
			}
		}
		m := x.model(t)
		m.kill(x.bytes)
		m.tellsOf(x.data, api.OK)
		m.revive()
	}
}

// P17.2: the store died ahead of the Append: not a byte is written, and Last and Seq are as they were, however often; revived, it goes on.
func TestDeadAhead(t *testing.T) {
	for _, x := range scenes() {
		m := x.model(t)
		was, row := m.last, bytes.Clone(m.row)
		m.s.Kill(0)
		if err := m.s.Write(0, []byte{1}); fault.Code(err) != api.ErrDead {
			t.Fatal(err)
		}
		m.dead = true
		for range 3 {
			m.tellsOf(x.data, api.ErrDead)
			m.tellsOf([]byte("a"), api.ErrDead)
		}
		if m.last != was || !bytes.Equal(m.row, row) {
			t.Fatalf("%s: %+v", x.name, m.last)
		}
		m.revive()
		m.adds(x.data)
	}
}

// The errors: each has its place, and more behind it; errors.Is and errors.As find its number, and no other one.
func TestErrors(t *testing.T) {
	narrow, final, dead, torn := opened(t, blanks(17)), inBanks(t, record(most, []byte("a")), nil, 30, true), opened(t, blanks(60)), inBanks(t, records(1, 2, 7), nil, 40, false)
	dead.s.Kill(0)
	torn.s.Kill(20)
	for _, x := range []struct {
		err error
		e   api.Errno
	}{
		{narrow.j.Append(nil), api.ErrArg}, {narrow.j.Append(mixed(41)), api.ErrArg},
		{narrow.j.Append([]byte("a")), api.ErrFull}, {final.j.Append([]byte("a")), api.ErrFull},
		{dead.j.Append([]byte("a")), api.ErrDead}, {dead.j.Append([]byte("a")), api.ErrDead},
		{torn.j.Append([]byte("a")), api.OK}, {torn.j.Append(mixed(9)), api.ErrDead}, {torn.j.Append(mixed(9)), api.ErrDead},
	} {
		if !isError(x.err, x.e) {
			t.Fatalf("%v, not %v", x.err, x.e)
		}
		for _, other := range []api.Errno{api.OK, api.ErrArg, api.ErrForm, api.ErrSum, api.ErrOld, api.ErrFull, api.ErrRange, api.ErrDead, api.ErrOther} {
			if x.err != nil && other != x.e && (fault.Is(x.err, other) || errors.Is(x.err, other)) {
				t.Fatalf("%v is %v too", x.err, other)
			}
		}
		var number api.Errno
		if errors.As(x.err, &number) != (x.e != api.OK) || number != x.e {
			t.Fatalf("%v: the number in it is %v", x.err, number)
		}
	}
}

// The errors: what the store told is wrapped: the places of its first error, of a Write in which it dies, or of one to a dead store, lie behind those of the journal and of its bank.
func TestErrorsOfStore(t *testing.T) {
	s := store.New(1)
	s.Kill(0)
	dying, dead := fault.Path(s.Write(0, []byte{1})), fault.Path(s.Write(0, []byte{1}))
	if len(dying) == 0 || len(dead) == 0 {
		t.Fatal(dying, dead)
	}
	for _, x := range scenes() {
		for after := range x.bytes {
			m := x.model(t)
			m.s.Kill(after)
			isWrapped(t, m.j.Append(x.data), dying)
			isWrapped(t, m.j.Append(x.data), dead)
		}
	}
}

// isWrapped holds that err came through the journal, and ahead of that from where the store told of its death.
func isWrapped(t *testing.T, err error, of []string) {
	t.Helper()
	path := fault.Path(err)
	if !isError(err, api.ErrDead) || len(path) < len(of)+2 || !slices.Equal(path[len(path)-len(of):], of) {
		t.Fatalf("%v: the path %q, of the store's %q", err, path, of)
	}
	for within := err; within != nil; within = errors.Unwrap(within) {
		if fault.Code(within) != api.ErrDead {
			t.Fatalf("within %v: %v", err, within)
		}
	}
}

// roomy is b with spare room behind it, and all of that memory.
func roomy(b []byte) (part, whole []byte) {
	whole = append(bytes.Clone(b), "spare room, more of it than a record of any data may have"...)
	return whole[:len(b)], whole
}

// spoil changes b, and its spare room.
func spoil(b []byte) {
	whole := b[:cap(b)]
	for i := range whole {
		whole[i] ^= 0xa5
	}
}

// P17.3, W6: data, and its spare room, are as they were behind Append, whatever it answers; written over, they change neither the store, nor what is told.
func TestAppendKeepsNothing(t *testing.T) {
	for _, x := range scenes() {
		for n := range api.MaxNote + 3 {
			for _, after := range []int{never, 0, 3, 55} {
				m := x.model(t)
				part, whole := roomy(mixed(n))
				before := bytes.Clone(whole)
				if after != never {
					m.kill(after)
				}
				m.add(part)
				if !bytes.Equal(whole, before) {
					t.Fatalf("Append changed its %d bytes, or what lies behind them", n)
				}
				spoil(whole)
				m.holds()
				spoilt := bytes.Clone(whole)
				m.revive()
				m.add(mixed(5))
				m.add(mixed(30))
				if !bytes.Equal(whole, spoilt) {
					t.Fatalf("%d bytes that were appended changed behind Append", n)
				}
			}
		}
	}
}

// P17.3, W6: what Last answers is new memory, spare room too: of what was opened, and of what was appended.
func TestLastNew(t *testing.T) {
	for n := 1; n <= api.MaxNote; n++ {
		m := inBanks(t, records(9, 1, n), nil, 60, true)
		for range 3 {
			first, _ := m.j.Last()
			second, _ := m.j.Last()
			before := bytes.Clone(second[:cap(second)])
			spoil(first)
			if !bytes.Equal(second[:cap(second)], before) {
				t.Fatalf("two answers of %d bytes share memory", n)
			}
			m.holds()
			_ = append(second, "more behind it"...)
			m.holds()
			before = bytes.Clone(second[:cap(second)])
			m.adds(mixed(n))
			if !bytes.Equal(second[:cap(second)], before) {
				t.Fatalf("an answer of %d bytes changed behind it", n)
			}
		}
	}
}

// P17.4: one death behind another, by one journal and by those that are opened anew: what was told ahead is told, and it goes on.
func TestDeathsChained(t *testing.T) {
	for size := 20; size < 110; size += 3 {
		d := dice(size)
		for range 40 {
			m := inBanks(t, nil, nil, size, size%2 == 0)
			for range 12 {
				length := min(size-around, 40)
				m.kill(d.below(size + 60))
				for m.add(mixed(d.below(length)+1)) == api.OK {
					m.tells(journal.Open(m.s))
				}
				m.tells(journal.Open(m.s))
				m.revive()
				m.tells(journal.Open(m.s))
				if d.below(2) == 0 {
					m.reopen()
				}
				if d.below(3) > 0 {
					m.adds(mixed(d.below(length) + 1))
				}
			}
		}
	}
}

// P17.4: two deaths, each behind each number of bytes: what was told ahead of both is told by a journal that is opened then, and goes on.
func TestTwoDeaths(t *testing.T) {
	for _, x := range scenes() {
		for first := 0; first < x.bytes; first += 2 {
			for second := range 60 {
				m := x.model(t)
				was := m.last
				m.kill(first)
				m.tellsOf(x.data, api.ErrDead)
				m.revive()
				m.reopen()
				if m.last.had != was.had || m.last.seq != was.seq || m.last.data != was.data {
					t.Fatalf("%s, behind %d bytes: %+v, not %+v", x.name, first, m.last, was)
				}
				m.kill(second)
				if m.add(mixed(9)) == api.ErrDead {
					m.revive()
					m.reopen()
					if m.last.had != was.had || m.last.seq != was.seq || m.last.data != was.data {
						t.Fatalf("%s, behind %d bytes, and %d: %+v, not %+v", x.name, first, second, m.last, was)
					}
					m.tellsOf(mixed(11), api.OK)
				} else {
					m.revive()
				}
				m.reopen()
				if m.last.seq != was.seq+1 {
					t.Fatalf("%s, behind %d bytes, and %d: the number is %d", x.name, first, second, m.last.seq)
				}
			}
		}
	}
}

// P17.1, P17.2: by dice: stores of all kinds of bytes, calls of all kinds, held against the model.
func TestByDice(t *testing.T) {
	d := dice(17)
	for range 3000 {
		size := d.below(120)
		var banks [2][]byte
		for i := range banks {
			b := slices.Concat(records([]int{0, 1, 9, 300, most - 3}[d.below(5)], d.below(4), d.below(12)+1), mixed(d.below(3)*d.below(9)))
			banks[i] = b[:min(len(b), size)]
		}
		m := inBanks(t, banks[0], banks[1], size, d.below(2) == 0)
		for range 30 {
			switch d.below(8) {
			case 0:
				m.kill(d.below(2*size + 10))
			case 1, 2:
				m.revive()
			case 3:
				m.reopen()
			default:
				m.add(mixed(d.below(43)))
			}
		}
	}
}
