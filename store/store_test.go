package store_test

import (
	"bytes"
	"errors"
	"testing"

	"crossbuck/api"
	"crossbuck/fault"
	"crossbuck/store"
)

// most is how many bytes a store has at most.
const most = 65536

// size is what New is given, and how many bytes there are then.
type size struct{ given, bytes int }

// sizes are all edges; those that look fine, or small, as fewer bits, too.
func sizes() []size {
	return []size{
		{api.MinInt, 0}, {api.MinInt + 1, 0}, {api.MinInt + 5, 0}, {-1<<32 + 5, 0}, {-65537, 0}, {-65536, 0}, {-65531, 0}, {-2, 0}, {-1, 0}, {0, 0},
		{1, 1}, {2, 2}, {3, 3}, {7, 7}, {60, 60}, {255, 255}, {256, 256}, {257, 257}, {4096, 4096}, {32767, 32767}, {32768, 32768}, {65534, 65534}, {65535, 65535}, {65536, most},
		{65537, most}, {65538, most}, {65541, most}, {131072, most}, {1 << 31, most}, {1 << 32, most}, {1<<32 + 5, most}, {1 << 62, most}, {api.MaxInt - 1, most}, {api.MaxInt, most},
	}
}

// lengths are sizes that stores of the other tests have.
func lengths() []int {
	return []int{0, 1, 2, 3, 8, 60, 257, 65535, most}
}

// mixed is n bytes that look like no rule, none of them ff, so that each of them is to be told from one that was never written.
func mixed(n int) []byte {
	b := make([]byte, n)
	x := uint32(n) + 4711
	for i := range b {
		x = x*1664525 + 1013904223
		b[i] = byte(x>>24) % 255
	}
	return b
}

// blanks is n bytes as they are in a new store.
func blanks(n int) []byte {
	return bytes.Repeat([]byte{0xff}, n)
}

// dice are numbers that look like no rule, the same at each run.
type dice uint64

func (d *dice) below(n int) int {
	*d = *d*6364136223846793005 + 1442695040888963407
	return int(uint64(*d)>>33) % n
}

func (d *dice) of(all []int) int {
	return all[d.below(len(all))]
}

// isError tells whether err is an error of layer 1 of that number, or, of OK, none.
func isError(err error, e api.Errno) bool {
	if e == api.OK {
		return err == nil
	}
	return err != nil && fault.Code(err) == e && len(fault.Path(err)) > 0 && errors.Is(err, e)
}

// model does what the document says, byte by byte, beside the store that is held against it.
type model struct {
	t    *testing.T
	s    *store.Store
	row  []byte
	dead bool
	kill bool // is it to die?
	left int  // if so: how many bytes are written ahead of that
}

// blank is a new store of n bytes, and what it should be.
func blank(t *testing.T, n int) *model {
	return &model{t: t, s: store.New(n), row: blanks(n)}
}

// full is a store of n bytes, all of which were written.
func full(t *testing.T, n int) *model {
	t.Helper()
	m := blank(t, n)
	m.writes(0, mixed(n))
	return m
}

// stand tells whether n bytes from at on stand in the store, by going from place to place.
func (m *model) stand(at, n int) bool {
	if at < 0 || at > len(m.row) {
		return false
	}
	for range n {
		if at == len(m.row) {
			return false
		}
		at++
	}
	return true
}

// put writes to the model alone: the error that the document tells.
func (m *model) put(at int, b []byte) api.Errno {
	if m.dead {
		return api.ErrDead
	}
	if !m.stand(at, len(b)) {
		return api.ErrRange
	}
	for i, x := range b {
		if m.kill && m.left == 0 {
			m.dead = true
			return api.ErrDead
		}
		m.left--
		m.row[at+i] = x
	}
	return api.OK
}

// write writes to both, and holds the answer, and what the store is then.
func (m *model) write(at int, b []byte) api.Errno {
	m.t.Helper()
	want := m.put(at, b)
	if err := m.s.Write(at, b); !isError(err, want) {
		m.t.Fatalf("Write of %d bytes at %d of %d: %v, not %v", len(b), at, len(m.row), err, want)
	}
	m.holds()
	return want
}

// writes holds that all of b is written.
func (m *model) writes(at int, b []byte) {
	m.t.Helper()
	m.refuses(at, b, api.OK)
}

// refuses holds that of b the error e is told.
func (m *model) refuses(at int, b []byte, e api.Errno) {
	m.t.Helper()
	if got := m.write(at, b); got != e {
		m.t.Fatalf("Write of %d bytes at %d of %d: %v, not %v", len(b), at, len(m.row), got, e)
	}
}

func (m *model) kills(after int) {
	m.t.Helper()
	m.s.Kill(after)
	m.kill, m.left = true, max(after, 0)
	m.holds()
}

func (m *model) revive() {
	m.t.Helper()
	m.s.Revive()
	m.dead, m.kill = false, false
	m.holds()
}

// die has the store die, with no byte written.
func (m *model) die() {
	m.t.Helper()
	m.kills(0)
	m.refuses(0, []byte{1}, api.ErrDead)
	m.isDead(true)
}

// isDead holds that the store is dead, or is not.
func (m *model) isDead(want bool) {
	m.t.Helper()
	if got := m.s.Dead(); got != want {
		m.t.Fatalf("Dead: %t, not %t", got, want)
	}
}

// reads holds what is read of n bytes from at on.
func (m *model) reads(at, n int) {
	m.t.Helper()
	var want []byte
	if m.stand(at, n) && n > 0 {
		want = m.row[at : at+n]
	}
	if got := m.s.Read(at, n); !bytes.Equal(got, want) {
		m.t.Fatalf("Read(%d, %d) of %d, dead %t: %d bytes, not %d, or others", at, n, len(m.row), m.dead, len(got), len(want))
	}
}

// holds holds all bytes of the store, how many they are, and whether it is dead; asked twice, for being asked changes nothing.
func (m *model) holds() {
	m.t.Helper()
	for range 2 {
		if got := m.s.Size(); got != len(m.row) {
			m.t.Fatalf("Size: %d, not %d", got, len(m.row))
		}
		m.isDead(m.dead)
		if got := m.s.Read(0, len(m.row)); !bytes.Equal(got, m.row) {
			m.t.Fatalf("the %d bytes: %d, or others, dead %t", len(m.row), len(got), m.dead)
		}
	}
}

// outlives holds that the store does not die, however many bytes are written to it.
func (m *model) outlives() {
	m.t.Helper()
	for n := range 5 {
		all := append(mixed(len(m.row)), byte(n))[1:]
		m.writes(0, all)
		m.writes(len(m.row), nil)
		m.isDead(false)
	}
}

// dies holds that the store dies at the byte behind the next so many ones, which are written one by one.
func (m *model) dies(behind int) {
	m.t.Helper()
	for n := range behind {
		m.writes(n%len(m.row), []byte{byte(n)})
	}
	m.writes(0, nil)
	m.isDead(false)
	m.refuses(0, []byte{0x77}, api.ErrDead)
	m.isDead(true)
}

// P15.3, P15.4: the document's example: Kill(1), Write of a b: ErrDead; a is there.
func TestExample(t *testing.T) {
	s := store.New(4)
	s.Kill(1)
	if err := s.Write(1, []byte("ab")); !isError(err, api.ErrDead) {
		t.Fatal(err)
	}
	if got := s.Read(0, 4); string(got) != "\xffa\xff\xff" || !s.Dead() {
		t.Fatalf("% x, dead %t", got, s.Dead())
	}
}

// P15.1: so many bytes ff, each of them read alone and all in one.
func TestSizes(t *testing.T) {
	for _, x := range sizes() {
		s := store.New(x.given)
		if got := s.Size(); got != x.bytes || s.Dead() {
			t.Fatalf("New(%d): Size %d, not %d, dead %t", x.given, got, x.bytes, s.Dead())
		}
		if got := s.Read(0, x.bytes); !bytes.Equal(got, blanks(x.bytes)) {
			t.Fatalf("New(%d): not %d bytes ff", x.given, x.bytes)
		}
		for at := range x.bytes {
			if got := s.Read(at, 1); len(got) != 1 || got[0] != 0xff {
				t.Fatalf("New(%d): byte %d: % x", x.given, at, got)
			}
		}
		if got := s.Read(0, x.bytes+1); len(got) != 0 {
			t.Fatalf("New(%d): a byte more is read", x.given)
		}
		if got := s.Read(x.bytes, 1); len(got) != 0 {
			t.Fatalf("New(%d): the byte %d is read", x.given, x.bytes)
		}
	}
}

// P15.1, P15.3: Size stays, and a new store does not die, however many bytes are written to it, in Writes of all lengths.
func TestNewLives(t *testing.T) {
	for _, x := range sizes() {
		m := &model{t: t, s: store.New(x.given), row: blanks(x.bytes)}
		m.holds()
		m.outlives()
	}
	for _, n := range []int{1, 60, 257} {
		m := blank(t, n)
		d := dice(n)
		for range 20000 {
			at := d.below(n)
			m.writes(at, mixed(d.below(n-at+1)))
		}
	}
	s, all := store.New(most), mixed(most)
	for n := range 4096 {
		if err := s.Write(0, all); err != nil || s.Dead() {
			t.Fatalf("behind %d bytes: %v, dead %t", n*most, err, s.Dead())
		}
	}
}

// P15.2: all places in and around small stores, and all numbers of bytes: of new stores, of such as were written to, of dead ones and of those that live again.
func TestReadsSmall(t *testing.T) {
	for n := range 12 {
		fresh, m := blank(t, n), full(t, n)
		held := func() {
			for at := -3; at < n+4; at++ {
				for many := -3; many < n+4; many++ {
					fresh.reads(at, many)
					m.reads(at, many)
				}
			}
		}
		held()
		if n == 0 {
			continue
		}
		m.kills(n - 1)
		held()
		m.refuses(0, mixed(n), api.ErrDead)
		held()
		m.revive()
		held()
	}
}

// edges are numbers at the ends of those that there are, those around a store's n bytes, and those that look so as fewer bits.
func edges(n int) []int {
	all := []int{api.MinInt, api.MinInt + 1, api.MinInt + n, -1 << 32, -1<<32 + 1, -n - 1, -n, -n + 1, -2, -1, 0, 1, 2, n / 2, n - 2, n - 1, n, n + 1, n + 2, 2 * n, most - 1, most, most + 1, 1<<31 - 1, 1 << 31, 1 << 32, 1<<32 + 1, 1<<32 + n}
	return append(all, api.MaxInt/2, api.MaxInt/2+1, api.MaxInt-n-1, api.MaxInt-n, api.MaxInt-n+1, api.MaxInt-1, api.MaxInt)
}

// P15.2: at and n at all their edges, beside each other, just as many bytes as stand from at on, and one more; none, where at and n together are no number; of a dead store the same as of one that is not.
func TestReadsEdges(t *testing.T) {
	for _, n := range lengths() {
		alive, dead := full(t, n), full(t, n)
		if n > 0 {
			dead.kills(n / 2)
			dead.refuses(0, mixed(n), api.ErrDead)
		}
		for _, m := range []*model{alive, dead, blank(t, n)} {
			for _, at := range edges(n) {
				for _, many := range edges(n) {
					m.reads(at, many)
				}
			}
			for _, at := range []int{0, 1, n / 3, n - 1, n} {
				m.reads(at, n-at)
				m.reads(at, n-at+1)
				m.reads(at, n-at-1)
			}
		}
	}
}

// P15.2: some Reads told one by one.
func TestReadsKnown(t *testing.T) {
	s := store.New(5)
	if err := s.Write(1, []byte("abc")); err != nil {
		t.Fatal(err)
	}
	known := []struct {
		at, n int
		want  string
	}{
		{0, 5, "\xffabc\xff"}, {0, 6, ""}, {1, 3, "abc"}, {2, 1, "b"}, {4, 1, "\xff"}, {4, 2, ""}, {3, 2, "c\xff"},
		{0, 0, ""}, {5, 0, ""}, {5, 1, ""}, {2, 0, ""}, {2, -1, ""}, {-1, 2, ""}, {-1, 6, ""}, {1, api.MaxInt, ""}, {5, api.MaxInt, ""},
		{api.MaxInt, 1, ""}, {api.MaxInt, api.MaxInt, ""}, {api.MinInt, 1, ""}, {api.MinInt, api.MinInt, ""}, {0, api.MinInt, ""}, {api.MaxInt, api.MinInt, ""}, {api.MinInt, api.MaxInt, ""},
	}
	for range 2 {
		for _, x := range known {
			if got := s.Read(x.at, x.n); string(got) != x.want {
				t.Errorf("Read(%d, %d), dead %t: %q, not %q", x.at, x.n, s.Dead(), got, x.want)
			}
		}
		s.Kill(0)
		if err := s.Write(0, []byte("z")); !isError(err, api.ErrDead) {
			t.Fatal(err)
		}
	}
}

// P15.3: some Writes, one behind the other, told one by one.
func TestWritesKnown(t *testing.T) {
	s := store.New(6)
	for _, x := range []struct {
		at   int
		b    string
		e    api.Errno
		want string
	}{
		{0, "abcdef", api.OK, "abcdef"},
		{0, "g", api.OK, "gbcdef"},
		{5, "h", api.OK, "gbcdeh"},
		{2, "ijk", api.OK, "gbijkh"},
		{3, "lmn", api.OK, "gbilmn"},
		{4, "opq", api.ErrRange, "gbilmn"},
		{6, "r", api.ErrRange, "gbilmn"},
		{-1, "s", api.ErrRange, "gbilmn"},
		{-1, "", api.ErrRange, "gbilmn"},
		{7, "", api.ErrRange, "gbilmn"},
		{6, "", api.OK, "gbilmn"},
		{0, "", api.OK, "gbilmn"},
		{0, "abcdefg", api.ErrRange, "gbilmn"},
		{api.MinInt, "abc", api.ErrRange, "gbilmn"},
		{api.MaxInt, "abc", api.ErrRange, "gbilmn"},
		{api.MaxInt, "", api.ErrRange, "gbilmn"},
		{1, "tuvwx", api.OK, "gtuvwx"},
	} {
		err := s.Write(x.at, []byte(x.b))
		if got := s.Read(0, 6); !isError(err, x.e) || string(got) != x.want || s.Dead() {
			t.Errorf("Write(%d, %q): %v, not %v: %q, not %q", x.at, x.b, err, x.e, got, x.want)
		}
	}
}

// P15.3: each byte that there may be is written as it is, at each place.
func TestWritesBytes(t *testing.T) {
	m := blank(t, 9)
	for at := range 9 {
		for x := range 256 {
			m.writes(at, []byte{byte(x)})
		}
	}
}

// P15.3: all lengths at all places in and around small stores: nil, and the bytes are there, or ErrRange, and nothing changed.
func TestWritesSmall(t *testing.T) {
	for n := range 10 {
		for many := range n + 4 {
			m := blank(t, n)
			for at := -3; at < n+4; at++ {
				want := api.OK
				if at < 0 || at+many > n {
					want = api.ErrRange
				}
				m.refuses(at, mixed(many), want)
			}
		}
	}
}

// P15.3: Writes of no bytes, one, many, and all, at all edges of stores of all sizes.
func TestWritesEdges(t *testing.T) {
	for _, n := range lengths() {
		m := full(t, n)
		for _, many := range []int{0, 1, 2, n / 2, n - 1, n, n + 1, most, most + 1, 2 * most} {
			if many < 0 {
				continue
			}
			b := append(mixed(many+1), 0x55)[2:]
			for _, at := range append(edges(n), n-many-1, n-many, n-many+1, api.MaxInt-many, api.MaxInt-many+1) {
				m.write(at, b)
			}
		}
	}
}

// P15.3: no bytes, nil and empty, are written at each place from 0 to Size, and nowhere else.
func TestWritesNothing(t *testing.T) {
	for _, n := range lengths() {
		m := full(t, n)
		for _, b := range [][]byte{nil, {}} {
			for _, at := range []int{0, n / 2, n} {
				m.writes(at, b)
			}
			for _, at := range []int{-1, n + 1, api.MinInt, api.MaxInt, 1<<32 + n} {
				m.refuses(at, b, api.ErrRange)
			}
		}
	}
}

// P15.3: of a dead store ErrDead is told of each Write, of one of no bytes, and of one beyond its range, too; nothing changes.
func TestWritesDead(t *testing.T) {
	for _, n := range lengths() {
		if n == 0 {
			continue
		}
		m := full(t, n)
		m.kills(n / 2)
		m.refuses(0, blanks(n), api.ErrDead)
		for _, at := range append(edges(n), 0) {
			for _, b := range [][]byte{nil, {}, {7}, mixed(n), mixed(n + 1), mixed(most + 1)} {
				m.refuses(at, b, api.ErrDead)
			}
		}
	}
}

// P15.3, P15.4: a store of no bytes that is to die at once never does, as no byte can be written to it: ErrRange is told of each.
func TestNoBytes(t *testing.T) {
	m := blank(t, 0)
	m.kills(0)
	m.refuses(0, []byte{1}, api.ErrRange)
	m.writes(0, nil)
	m.refuses(-1, nil, api.ErrRange)
	m.refuses(1, nil, api.ErrRange)
	m.isDead(false)
	m.revive()
	m.writes(0, nil)
}

// P15.3, P15.4, P15.6: each length at each place, with each number of bytes left, of small stores: of a torn Write just the first bytes are there; behind just as many bytes as are left the store lives, and dies at the next one.
func TestTorn(t *testing.T) {
	const n = 9
	for many := range n + 1 {
		for at := range n - many + 1 {
			for after := -2; after < n+3; after++ {
				m := full(t, n)
				m.kills(after)
				got, whole := m.write(at, bytes.Repeat([]byte{0xee}, many)), max(after, 0) >= many
				if whole != (got == api.OK) || whole == m.s.Dead() {
					t.Fatalf("Kill(%d), Write of %d bytes at %d: %v, dead %t", after, many, at, got, m.s.Dead())
				}
				if whole {
					m.dies(max(after, 0) - many)
				}
			}
		}
	}
}

// P15.3, P15.6: torn Writes told one by one.
func TestTornKnown(t *testing.T) {
	for _, x := range []struct {
		after, at int
		b         string
		e         api.Errno
		want      string
	}{
		{api.MinInt, 0, "abc", api.ErrDead, "----"},
		{-1, 0, "abc", api.ErrDead, "----"},
		{0, 0, "abc", api.ErrDead, "----"},
		{1, 0, "abc", api.ErrDead, "a---"},
		{1, 1, "abc", api.ErrDead, "-a--"},
		{2, 0, "abc", api.ErrDead, "ab--"},
		{2, 1, "abc", api.ErrDead, "-ab-"},
		{3, 1, "abc", api.OK, "-abc"},
		{4, 1, "abc", api.OK, "-abc"},
		{3, 0, "abcd", api.ErrDead, "abc-"},
		{4, 0, "abcd", api.OK, "abcd"},
		{api.MaxInt, 0, "abcd", api.OK, "abcd"},
		{0, 0, "", api.OK, "----"},
		{0, 4, "", api.OK, "----"},
		{0, 2, "abc", api.ErrRange, "----"},
		{1, 4, "a", api.ErrRange, "----"},
	} {
		s := store.New(4)
		if err := s.Write(0, []byte("----")); err != nil {
			t.Fatal(err)
		}
		s.Kill(x.after)
		if s.Dead() {
			t.Fatalf("Kill(%d): dead at once", x.after)
		}
		err := s.Write(x.at, []byte(x.b))
		if got := s.Read(0, 4); !isError(err, x.e) || string(got) != x.want || s.Dead() != (x.e == api.ErrDead) {
			t.Errorf("Kill(%d), Write(%d, %q): %v, not %v: %q, not %q, dead %t", x.after, x.at, x.b, err, x.e, got, x.want, s.Dead())
		}
	}
}

// afters are what Kill is given ahead of a Write of n bytes.
func afters(n int) []int {
	return []int{api.MinInt, api.MinInt + 1, api.MinInt + n, -1 << 32, -1<<32 + 1, -n, -1, 0, 1, n / 2, n - 1, n, n + 1, 2 * n, 1 << 32, 1<<32 + 1, 1 << 62, api.MaxInt - 1, api.MaxInt}
}

// P15.3, P15.4, P15.6: likewise of stores of all sizes, at the edges of what is left.
func TestTornEdges(t *testing.T) {
	for _, n := range lengths() {
		for _, many := range []int{0, 1, n / 2, n - 1, n} {
			if many < 0 || many > n {
				continue
			}
			for _, after := range afters(many) {
				m := full(t, n)
				m.kills(after)
				m.isDead(false)
				got := m.write(n-many, bytes.Repeat([]byte{0xee}, many))
				m.isDead(got == api.ErrDead)
				m.write(0, blanks(n))
				m.write(0, blanks(n))
			}
		}
	}
}

// P15.3: what is left is less by just the bytes that are written, over several Writes; one of no bytes takes none of them, nor one that tells ErrRange.
func TestLeft(t *testing.T) {
	for after := range 40 {
		m := blank(t, 12)
		m.kills(after)
		left := after
		for n := 0; n <= left; n++ {
			m.writes(n%3, mixed(n))
			left -= n
			m.refuses(-1, mixed(3), api.ErrRange)
			m.refuses(10, mixed(3), api.ErrRange)
			m.refuses(0, mixed(13), api.ErrRange)
			m.refuses(13, nil, api.ErrRange)
			m.refuses(api.MaxInt, mixed(1), api.ErrRange)
			m.writes(12, nil)
			m.writes(0, []byte{})
		}
		m.dies(left)
	}
}

// P15.3: a Write that is beyond the store's range tells ErrRange also if the store is to die in it: it lives, and has as many bytes left.
func TestRangeAhead(t *testing.T) {
	for after := range 5 {
		m := full(t, 8)
		m.kills(after)
		for range 20 {
			m.refuses(4, mixed(5), api.ErrRange)
			m.refuses(-3, mixed(8), api.ErrRange)
			m.refuses(8, mixed(1), api.ErrRange)
		}
		m.isDead(false)
		m.dies(after)
	}
}

// P15.4: many bytes are left: the store dies just behind them.
func TestManyLeft(t *testing.T) {
	for _, after := range []int{255, 256, 257, 65535, 65536, 65537, 70000, 200000, 1<<20 + 1, 1<<24 + 3, 1<<28 + 5} {
		n := min(after/3, most)
		s, b := store.New(n), mixed(n)
		s.Kill(after)
		for range after / n {
			if err := s.Write(0, b); err != nil || s.Dead() {
				t.Fatalf("Kill(%d): %v, dead %t", after, err, s.Dead())
			}
		}
		if err := s.Write(0, b[:after%n]); err != nil || s.Dead() {
			t.Fatalf("Kill(%d), the last ones: %v, dead %t", after, err, s.Dead())
		}
		if err := s.Write(0, b[:1]); !isError(err, api.ErrDead) || !s.Dead() {
			t.Fatalf("Kill(%d), the one behind them: %v, dead %t", after, err, s.Dead())
		}
	}
}

// P15.4: a store that is to die behind more bytes than anybody writes does not die.
func TestMostLeft(t *testing.T) {
	b := mixed(most)
	for _, after := range []int{1 << 31, 1 << 32, 1<<32 + 1, 1 << 62, api.MaxInt - 1, api.MaxInt} {
		s := store.New(most)
		s.Kill(after)
		for range 2000 {
			if err := s.Write(0, b); err != nil || s.Dead() {
				t.Fatalf("Kill(%d): %v, dead %t", after, err, s.Dead())
			}
		}
	}
}

// P15.4: of two Kills only the later one counts, whether it tells more or fewer, and however many bytes were written between them.
func TestSecondKill(t *testing.T) {
	const n = 7
	for first := -1; first < 10; first++ {
		for second := -1; second < 10; second++ {
			for between := 0; between <= max(first, 0) && between <= n; between++ {
				m := full(t, n)
				m.kills(first)
				m.writes(0, mixed(between))
				m.kills(second)
				m.dies(max(second, 0))
			}
		}
	}
	for _, first := range afters(n) {
		for _, second := range afters(n) {
			m := full(t, n)
			m.kills(first)
			m.kills(second)
			if got := m.write(0, blanks(n)); (got == api.OK) != (second >= n) {
				t.Fatalf("Kill(%d), Kill(%d): %v", first, second, got)
			}
		}
	}
}

// P15.4: a dead store stays so, whatever Kill is given; behind Revive it will not die, as of a Kill that there was ahead of it.
func TestKillDead(t *testing.T) {
	const n = 7
	for _, after := range afters(n) {
		m := full(t, n)
		m.die()
		m.kills(after)
		m.isDead(true)
		m.refuses(0, nil, api.ErrDead)
		m.refuses(0, mixed(n), api.ErrDead)
		m.isDead(true)
		m.revive()
		m.isDead(false)
		m.outlives()
	}
}

// P15.4: Dead ahead of the death, behind it, and behind Revive.
func TestDead(t *testing.T) {
	m := blank(t, 5)
	m.isDead(false)
	m.kills(3)
	m.isDead(false)
	m.writes(0, []byte("ab"))
	m.isDead(false)
	m.writes(2, []byte("c"))
	m.isDead(false)
	m.writes(3, nil)
	m.isDead(false)
	m.refuses(3, []byte("de"), api.ErrDead)
	m.isDead(true)
	m.refuses(3, []byte("de"), api.ErrDead)
	m.isDead(true)
	m.revive()
	m.isDead(false)
	if got := m.s.Read(0, 5); string(got) != "abc\xff\xff" {
		t.Fatalf("%q", got)
	}
	m.outlives()
}

// P15.4: behind Revive a store that was to die does not, whatever was left; nor does one that died; its bytes are as they were, those of a torn Write too.
func TestRevive(t *testing.T) {
	const n = 8
	for _, after := range afters(n) {
		m := full(t, n)
		m.kills(after)
		m.revive()
		m.outlives()
		m = full(t, n)
		m.kills(after)
		m.write(0, bytes.Repeat([]byte{0xee}, n))
		m.revive()
		m.revive()
		m.isDead(false)
		m.outlives()
	}
	for after := range n {
		m := full(t, n)
		m.kills(after)
		m.refuses(0, bytes.Repeat([]byte{0xee}, n), api.ErrDead)
		m.revive()
		want := append(bytes.Repeat([]byte{0xee}, after), mixed(n)[after:]...)
		if got := m.s.Read(0, n); !bytes.Equal(got, want) {
			t.Fatalf("Kill(%d): % x, not % x", after, got, want)
		}
	}
}

// P15.4: a store may die, and live again, many times; each Kill counts from when it was told on.
func TestManyLives(t *testing.T) {
	m := full(t, 6)
	for life := range 50 {
		m.outlives()
		m.kills(life % 9)
		m.dies(life % 9)
		m.revive()
	}
}

// P15.4: Revive of a new store, and of one that lives, changes nothing.
func TestReviveAlive(t *testing.T) {
	for _, n := range lengths() {
		m := blank(t, n)
		m.revive()
		m.outlives()
		m.revive()
		m.outlives()
	}
}

// roomy is b with spare room behind it that is not ff, and all of that memory.
func roomy(b []byte) (part, whole []byte) {
	whole = append(bytes.Clone(b), "spare room, more than there is behind"...)
	return whole[:len(b)], whole
}

// spoil changes b, and its spare room.
func spoil(b []byte) {
	whole := b[:cap(b)]
	for i := range whole {
		whole[i] ^= 0xa5
	}
}

// P15.5, W6: Write neither changes b, nor its spare room, nor keeps them, whether it writes all, a part or none.
func TestWriteKeepsNothing(t *testing.T) {
	const n = 12
	for many := range n + 3 {
		for _, at := range []int{-1, 0, 1, n - many, n} {
			for after := range n + 3 {
				m := full(t, n)
				m.kills(after)
				part, whole := roomy(mixed(many))
				before := bytes.Clone(whole)
				m.write(at, part)
				if !bytes.Equal(whole, before) {
					t.Fatalf("Write changed its %d bytes, or what lies behind them", many)
				}
				spoil(whole)
				m.holds()
				before = bytes.Clone(whole)
				m.revive()
				m.writes(0, blanks(n))
				if !bytes.Equal(whole, before) {
					t.Fatalf("the %d bytes changed later on", many)
				}
			}
		}
	}
}

// P15.5, W6: a Write of all bytes that a store has takes none of the memory that it is handed, however great.
func TestWriteKeepsNothingWhole(t *testing.T) {
	for _, n := range lengths() {
		m := blank(t, n)
		part, whole := roomy(mixed(n))
		before := bytes.Clone(whole)
		m.writes(0, part)
		if !bytes.Equal(whole, before) {
			t.Fatalf("Write changed its %d bytes, or what lies behind them", n)
		}
		spoil(whole)
		m.holds()
		before = bytes.Clone(whole)
		m.writes(0, blanks(n))
		if !bytes.Equal(whole, before) {
			t.Fatalf("the %d bytes changed later on", n)
		}
	}
}

// P15.5, W6: what is read is new memory, spare room too: to write there changes neither the store, nor another answer.
func TestReadNew(t *testing.T) {
	for _, n := range lengths() {
		m := full(t, n)
		for _, at := range []int{0, 1, n / 2, n - 1} {
			for _, many := range []int{1, 2, n / 2, n - at} {
				first, second := m.s.Read(at, many), m.s.Read(at, many)
				before := bytes.Clone(second[:cap(second)])
				spoil(first)
				m.holds()
				if !bytes.Equal(second[:cap(second)], before) {
					t.Fatalf("Read(%d, %d) of %d shares memory with another one", at, many, n)
				}
			}
		}
	}
}

// P15.5, W6: what was read stays as it was, whatever is written behind it; and it may be written to the store that it was read of, at any place, and to another one.
func TestReadStays(t *testing.T) {
	for _, n := range lengths() {
		m, other := full(t, n), blank(t, n)
		b := m.s.Read(0, n)
		m.writes(0, blanks(n))
		if !bytes.Equal(b, mixed(n)) {
			t.Fatalf("the %d bytes that were read changed later on", n)
		}
		other.writes(0, b)
		for at := range min(n, 9) {
			m.writes(at, b[:n-at])
			m.writes(0, b[at:])
			m.writes(0, m.s.Read(at, n-at))
			m.writes(at, m.s.Read(0, n-at))
		}
		other.holds()
		if !bytes.Equal(b, mixed(n)) {
			t.Fatalf("the %d bytes that were read changed as they were written", n)
		}
	}
}

// P15.5: an error that was told stays as it was.
func TestErrorsStay(t *testing.T) {
	s := store.New(3)
	beyond := s.Write(3, []byte{1})
	s.Kill(1)
	torn := s.Write(0, []byte{1, 2})
	dead := s.Write(9, nil)
	texts := []string{beyond.Error(), torn.Error(), dead.Error()}
	s.Revive()
	if err := s.Write(0, []byte{1, 2, 3}); err != nil {
		t.Fatal(err)
	}
	for i, err := range []error{beyond, torn, dead} {
		want := []api.Errno{api.ErrRange, api.ErrDead, api.ErrDead}[i]
		if !isError(err, want) || err.Error() != texts[i] {
			t.Errorf("%v, not %s", err, texts[i])
		}
	}
}

// P15.5, W2: two stores do not touch each other.
func TestStoresApart(t *testing.T) {
	for _, n := range []int{1, 8, 257, most} {
		a, b := blank(t, n), blank(t, n)
		a.writes(0, mixed(n))
		b.holds()
		a.kills(0)
		b.outlives()
		a.refuses(0, blanks(n), api.ErrDead)
		b.holds()
		b.outlives()
		b.kills(1)
		a.revive()
		a.outlives()
		b.dies(1)
		a.outlives()
		a.holds()
		b.holds()
	}
}

// step does one thing by dice: a Write, most often near the store's range and with few bytes left, a Read, Kill or Revive.
func step(m *model, d *dice) {
	m.t.Helper()
	n := len(m.row)
	switch d.below(10) {
	case 0:
		m.kills(d.below(n + 5))
	case 1:
		m.kills(d.of(afters(n)))
	case 2:
		m.revive()
	case 3:
		m.reads(d.of(edges(n)), d.of(edges(n)))
	case 4:
		at := d.below(n + 1)
		m.reads(at, d.below(n-at+2))
	case 5:
		m.write(d.of(edges(n)), mixed(d.below(n+2)))
	default:
		at := d.below(n + 1)
		b := mixed(min(n-at, d.below(n+1)))
		for i := range b {
			b[i] ^= byte(d.below(256))
		}
		m.write(at, b)
	}
}

// P15.1 to P15.6: long runs by dice, of stores of many sizes, held against the model at each step.
func TestByDice(t *testing.T) {
	for n := range 40 {
		m, d := blank(t, n), dice(n)
		for range 3000 {
			step(m, &d)
		}
	}
	for _, n := range lengths() {
		m, d := blank(t, n), dice(n)
		for range 500 {
			step(m, &d)
		}
	}
}

// P15.1 to P15.6: several stores by turns, each held against its own model.
func TestByDiceByTurns(t *testing.T) {
	all := []*model{blank(t, 0), blank(t, 1), blank(t, 5), blank(t, 5), blank(t, 64), blank(t, 300)}
	d := dice(99)
	for range 8000 {
		step(all[d.below(len(all))], &d)
		all[d.below(len(all))].holds()
	}
}

// W1: a store that New did not make does not panic either, though nothing is promised of what it tells.
func TestNotMade(t *testing.T) {
	var s store.Store
	for _, at := range edges(3) {
		for _, n := range edges(3) {
			s.Read(at, n)
			s.Kill(n)
		}
		s.Write(at, mixed(3))
		s.Write(at, nil)
		s.Dead()
		s.Size()
		s.Revive()
	}
}
