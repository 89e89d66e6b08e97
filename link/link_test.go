package link_test

import (
	"bytes"
	"errors"
	"testing"

	"crossbuck/api"
	"crossbuck/fault"
	"crossbuck/frame"
	"crossbuck/link"
)

// channels is how many there are.
const channels = 16

// span is what New is given, and for how many ticks behind a telegram a channel is fresh then.
type span struct{ given, fresh int }

// short are spans that end soon; those that look fine as fewer bits, too.
func short() []span {
	return []span{{api.MinInt, 1}, {api.MinInt + 1, 1}, {api.MinInt + 5, 1}, {-1<<32 + 5, 1}, {-65531, 1}, {-6000, 1}, {-2, 1}, {-1, 1}, {0, 1}, {1, 1}, {2, 2}, {3, 3}, {16, 16}, {20, 20}}
}

// long are spans up to the most that there may be, and beyond.
func long() []span {
	return []span{{255, 255}, {256, 256}, {257, 257}, {4096, 4096}, {5999, 5999}, {6000, 6000}, {6001, 6000}, {6002, 6000}, {12000, 6000}, {65536, 6000}, {65537, 6000}, {1 << 32, 6000}, {1<<32 + 5, 6000}, {api.MaxInt - 1, 6000}, {api.MaxInt, 6000}}
}

// nobody are numbers that no channel has; those that look like a channel as fewer bits, too.
func nobody() []int {
	return []int{16, 17, 18, 31, 32, 255, 256, 257, 272, 65536, 1 << 32, 1<<32 + 1, 1 << 62, api.MaxInt - 15, api.MaxInt - 1, api.MaxInt, -1, -2, -15, -16, -17, -255, -256, -65536, -1 << 32, -1<<32 + 1, api.MinInt, api.MinInt + 1, api.MinInt + 15}
}

// noNumbers are numbers that no telegram has; those that look like one as fewer bits, too.
func noNumbers() []int {
	return []int{256, 257, 260, 271, 272, 511, 512, 65536, 65541, 1 << 32, 1<<32 + 6, 1 << 62, api.MaxInt - 250, api.MaxInt - 1, api.MaxInt, -1, -2, -16, -250, -251, -255, -256, -65536, -1 << 32, -1<<32 + 6, api.MinInt, api.MinInt + 1, api.MinInt + 6}
}

// tooLong are lengths that no data have; those that look fine as fewer bits, too.
func tooLong() []int {
	return []int{17, 18, 31, 32, 255, 256, 257, 272, 65536, 65537, 65552}
}

// mixed is n bytes that look like no rule, the same ones each time.
func mixed(n int) []byte {
	b := make([]byte, n)
	x := uint32(n) + 4711
	for i := range b {
		x = x*1664525 + 1013904223
		b[i] = byte(x >> 24)
	}
	return b
}

// dice are numbers that look like no rule, the same at each run.
type dice uint64

func (d *dice) below(n int) int {
	*d = *d*6364136223846793005 + 1442695040888963407
	return int(uint64(*d)>>33) % n
}

// said is what a channel said last, and how many ticks ago, however many these are.
type said struct {
	had  bool
	seq  int
	data []byte
	ago  int
}

// model does what the document says, beside the links that are held against it.
type model struct {
	t     *testing.T
	l     *link.Links
	fresh int
	said  [channels]said
}

func start(t *testing.T, s span) *model {
	return &model{t: t, l: link.New(s.given), fresh: s.fresh}
}

func (m *model) isFresh(ch int) bool {
	return m.said[ch].had && m.said[ch].ago <= m.fresh
}

// code is the error that the document tells of f: of two that fit the first.
func (m *model) code(f api.Frame) api.Errno {
	if _, err := frame.Encode(f); err != nil {
		return api.ErrArg
	}
	if !m.isFresh(f.Chan) {
		return api.OK
	}
	for n := 1; n <= 16; n++ {
		if (m.said[f.Chan].seq+n)%256 == f.Seq {
			return api.OK
		}
	}
	return api.ErrOld
}

// take hands f to both, and holds the answer, and what is told of each channel then.
func (m *model) take(f api.Frame) api.Errno {
	m.t.Helper()
	want := m.code(f)
	if err := m.l.Take(f); !isError(err, want) {
		m.t.Fatalf("Take of channel %d, number %d, %d bytes: %v, not %v", f.Chan, f.Seq, len(f.Data), err, want)
	}
	if want == api.OK {
		m.said[f.Chan] = said{had: true, seq: f.Seq, data: bytes.Clone(f.Data)}
	}
	m.holds()
	return want
}

// takes holds that f is taken.
func (m *model) takes(f api.Frame) {
	m.t.Helper()
	if got := m.take(f); got != api.OK {
		m.t.Fatalf("Take of %v: %v", f, got)
	}
}

// refuses holds that f is refused with the error e.
func (m *model) refuses(f api.Frame, e api.Errno) {
	m.t.Helper()
	if got := m.take(f); got != e {
		m.t.Fatalf("Take of channel %d, number %d, %d bytes: %v, not %v", f.Chan, f.Seq, len(f.Data), got, e)
	}
}

// isError tells whether err is an error of layer 1 of that number, or, of OK, none.
func isError(err error, e api.Errno) bool {
	if e == api.OK {
		return err == nil
	}
	return err != nil && fault.Code(err) == e && len(fault.Path(err)) > 0 && errors.Is(err, e)
}

func (m *model) tick() {
	m.l.Tick()
	for ch := range m.said {
		m.said[ch].ago++
	}
}

// ticks lets both go on by n ticks, and holds what is told behind each.
func (m *model) ticks(n int) {
	m.t.Helper()
	for range n {
		m.tick()
		m.holds()
	}
}

// skip lets both go on by n ticks, and holds what is told behind the last.
func (m *model) skip(n int) {
	m.t.Helper()
	for range n {
		m.tick()
	}
	m.holds()
}

// holds holds what is told of each channel, and of what is none, against what it should be; asked twice, for being asked changes nothing.
func (m *model) holds() {
	m.t.Helper()
	for range 2 {
		for ch := range channels {
			m.holdsOne(ch)
		}
		for _, ch := range []int{api.MinInt, -1, channels, channels + 1, 256, api.MaxInt} {
			tellsNothing(m.t, m.l, ch)
		}
	}
}

// holdsOne holds what is told of that channel: Had, number and age of each that a telegram was taken of, what it said as long as it is fresh.
func (m *model) holdsOne(ch int) {
	m.t.Helper()
	c, want := m.said[ch], api.Link{}
	if c.had {
		want = api.Link{Had: true, Seq: c.seq, Age: min(c.ago, m.fresh+1)}
	}
	if m.isFresh(ch) {
		want.Data = c.data
	}
	if got := m.l.At(ch); !same(got, want) {
		m.t.Fatalf("At(%d): %v, not %v", ch, got, want)
	}
	if b, ok := m.l.Fresh(ch); ok != m.isFresh(ch) || !bytes.Equal(b, want.Data) {
		m.t.Fatalf("Fresh(%d): % x, %t, not % x, %t", ch, b, ok, want.Data, m.isFresh(ch))
	}
}

// same tells whether a and b are the same, where no data are nil and empty alike.
func same(a, b api.Link) bool {
	return a.Had == b.Had && a.Seq == b.Seq && a.Age == b.Age && bytes.Equal(a.Data, b.Data)
}

// tellsNothing holds that nothing is known of ch.
func tellsNothing(t *testing.T, l *link.Links, ch int) {
	t.Helper()
	if b, ok := l.Fresh(ch); ok || len(b) != 0 {
		t.Fatalf("Fresh(%d): % x, %t", ch, b, ok)
	}
	if got := l.At(ch); !same(got, api.Link{}) {
		t.Fatalf("At(%d): %v", ch, got)
	}
}

// fill has each channel say something of its own.
func (m *model) fill() {
	m.t.Helper()
	for ch := range channels {
		m.takes(api.Frame{Chan: ch, Seq: ch * 17, Data: mixed(ch + 1)})
	}
}

// P7.2: the document's example: number 5, then 5 again: ErrOld; of 6: taken.
func TestExample(t *testing.T) {
	l := link.New(10)
	if err := l.Take(api.Frame{Chan: 3, Seq: 5, Data: []byte("five")}); err != nil {
		t.Fatal(err)
	}
	if err := l.Take(api.Frame{Chan: 3, Seq: 5, Data: []byte("again")}); !isError(err, api.ErrOld) {
		t.Fatal(err)
	}
	if b, ok := l.Fresh(3); !ok || string(b) != "five" {
		t.Fatalf("%q, %t", b, ok)
	}
	l.Tick()
	if got := l.At(3); !same(got, api.Link{Had: true, Seq: 5, Age: 1, Data: []byte("five")}) {
		t.Fatal(got)
	}
	if err := l.Take(api.Frame{Chan: 3, Seq: 6, Data: []byte("six")}); err != nil {
		t.Fatal(err)
	}
	if got := l.At(3); !same(got, api.Link{Had: true, Seq: 6, Data: []byte("six")}) {
		t.Fatal(got)
	}
}

// P7.1, P7.3: of none of the channels a telegram was taken: nothing is known of it, and it grows no older, however many ticks go by.
func TestNothingTaken(t *testing.T) {
	for _, s := range append(short(), long()...) {
		l := link.New(s.given)
		for range 4 {
			for ch := range channels {
				tellsNothing(t, l, ch)
			}
			for _, ch := range nobody() {
				tellsNothing(t, l, ch)
			}
			for range s.fresh {
				l.Tick()
			}
		}
	}
}

// P7.1, P7.2: the first telegram of a channel is taken, whatever its number is, also behind many ticks.
func TestFirst(t *testing.T) {
	for seq := range 256 {
		for _, ahead := range []int{0, 1, 4, 5, 300} {
			m := start(t, span{4, 4})
			m.skip(ahead)
			ch := seq % channels
			m.takes(api.Frame{Chan: ch, Seq: seq, Data: mixed(3)})
			m.takes(api.Frame{Chan: 15 - ch, Seq: seq, Data: mixed(4)})
		}
	}
}

// P7.1, P7.3: a channel is fresh behind a telegram for as many ticks as New was told, and then stale; its age goes up by each tick, and is one more at most.
func TestSpans(t *testing.T) {
	for _, s := range short() {
		for ch := range channels {
			m := start(t, s)
			m.takes(api.Frame{Chan: ch, Seq: 200, Data: mixed(16)})
			m.ticks(4*s.fresh + 10)
		}
	}
	for _, s := range long() {
		m := start(t, s)
		m.takes(api.Frame{Chan: s.given & 15, Seq: 0, Data: mixed(1)})
		for range s.fresh + 300 {
			m.tick()
			m.holdsOne(s.given & 15)
		}
		m.skip(3 * s.fresh)
	}
}

// P7.3: at the last tick at which it is fresh a channel tells all, a tick later no data, but its number and its age, and so for good.
func TestAround(t *testing.T) {
	for _, s := range append(short(), long()...) {
		l := link.New(s.given)
		if err := l.Take(api.Frame{Chan: 9, Seq: 255, Data: []byte{1, 0}}); err != nil {
			t.Fatal(err)
		}
		for range s.fresh {
			l.Tick()
		}
		if got := l.At(9); !same(got, api.Link{Had: true, Seq: 255, Age: s.fresh, Data: []byte{1, 0}}) {
			t.Errorf("New(%d), behind %d ticks: %v", s.given, s.fresh, got)
		}
		if b, ok := l.Fresh(9); !ok || string(b) != "\x01\x00" {
			t.Errorf("New(%d), behind %d ticks: % x, %t", s.given, s.fresh, b, ok)
		}
		for _, more := range []int{1, 1, 100, 20000} {
			for range more {
				l.Tick()
			}
			if got := l.At(9); !same(got, api.Link{Had: true, Seq: 255, Age: s.fresh + 1}) {
				t.Errorf("New(%d), stale: %v", s.given, got)
			}
			if b, ok := l.Fresh(9); ok || len(b) != 0 {
				t.Errorf("New(%d), stale: % x, %t", s.given, b, ok)
			}
		}
	}
}

// P7.2: behind each number each other one, at each age: while the channel is fresh those from 1 to 16 ahead are taken, all others are ErrOld; once it is stale each is taken.
func TestAllNumbers(t *testing.T) {
	for _, age := range []int{0, 1, 2, 3, 4, 9} {
		for last := range 256 {
			l := link.New(3)
			ch := last % channels
			for seq := range 256 {
				ahead := (seq - last + 256) % 256
				taken := age > 3 || ahead >= 1 && ahead <= 16
				stepTo(t, l, api.Frame{Chan: ch, Seq: last, Data: []byte("last")}, age)
				err := l.Take(api.Frame{Chan: ch, Seq: seq, Data: []byte("next")})
				want, code := api.Link{Had: true, Seq: seq, Data: []byte("next")}, api.OK
				if !taken {
					want, code = api.Link{Had: true, Seq: last, Age: age, Data: []byte("last")}, api.ErrOld
				}
				if got := l.At(ch); !isError(err, code) || !same(got, want) {
					t.Fatalf("%d behind %d at the age %d: %v, %v", seq, last, age, err, got)
				}
			}
		}
	}
}

// stepTo makes f the last telegram of its channel, by waiting till that is stale, and then of that age. (Of l each channel is fresh for 3 ticks.)
func stepTo(t *testing.T, l *link.Links, f api.Frame, age int) {
	t.Helper()
	for range 4 {
		l.Tick()
	}
	if err := l.Take(f); err != nil {
		t.Fatal(err)
	}
	for range age {
		l.Tick()
	}
}

// P7.2, P7.3: the edges of the window, at the last tick at which a channel is fresh, and at the first one at which it is stale, of each span.
func TestWindowAround(t *testing.T) {
	for _, s := range append(short(), long()...) {
		for _, last := range []int{0, 5, 239, 240, 255} {
			for _, ahead := range []int{0, 1, 16, 17, 128, 255} {
				next := api.Frame{Chan: 8, Seq: (last + ahead) % 256, Data: mixed(2)}
				m := start(t, s)
				m.takes(api.Frame{Chan: 8, Seq: last, Data: mixed(5)})
				m.skip(s.fresh)
				if ahead == 1 || ahead == 16 {
					m.takes(next)
					continue
				}
				m.refuses(next, api.ErrOld)
				m.skip(1)
				m.takes(next)
				m.refuses(next, api.ErrOld)
			}
		}
	}
}

// P7.2: a telegram that is taken begins anew: its channel is fresh from then on, and the window lies behind its number, also when that went far, round, or back while the channel was stale.
func TestTakenAnew(t *testing.T) {
	m := start(t, span{5, 5})
	m.takes(api.Frame{Chan: 2, Seq: 250, Data: mixed(1)})
	for _, seq := range []int{251, 255, 0, 16, 17, 33} {
		m.ticks(5)
		m.takes(api.Frame{Chan: 2, Seq: seq, Data: mixed(seq % 17)})
		m.refuses(api.Frame{Chan: 2, Seq: seq}, api.ErrOld)
		m.refuses(api.Frame{Chan: 2, Seq: (seq + 255) % 256}, api.ErrOld)
		m.refuses(api.Frame{Chan: 2, Seq: (seq + 17) % 256}, api.ErrOld)
	}
	m.ticks(6)
	m.takes(api.Frame{Chan: 2, Seq: 10, Data: mixed(7)})
	m.refuses(api.Frame{Chan: 2, Seq: 34}, api.ErrOld)
	m.takes(api.Frame{Chan: 2, Seq: 26, Data: mixed(8)})
	m.ticks(20)
}

// P7.5: several telegrams of one tick are taken in their order, each but once, however they are mixed up and told again.
func TestOrder(t *testing.T) {
	m := start(t, span{2, 2})
	last := -1
	for n, seq := range []int{0, 1, 1, 0, 3, 2, 4, 20, 4, 21, 19, 37, 38, 37} {
		f := api.Frame{Chan: 12, Seq: seq, Data: []byte{byte(n)}}
		if seq <= last {
			m.refuses(f, api.ErrOld)
			continue
		}
		m.takes(f)
		last = seq
	}
	for n := range 1000 {
		m.takes(api.Frame{Chan: 12, Seq: (39 + n) % 256})
		m.refuses(api.Frame{Chan: 12, Seq: (38 + n) % 256}, api.ErrOld)
	}
}

// P7.2: a telegram with a channel, a number or data beyond the limits is ErrArg, on links of which nothing was taken, fresh and stale ones, and nothing has changed; where it is out of its order too, it is ErrArg that is told.
func TestRefusesArg(t *testing.T) {
	for _, filled := range []bool{false, true} {
		for _, age := range []int{0, 1, 4, 5, 30} {
			m := start(t, span{4, 4})
			if filled {
				m.fill()
			}
			m.skip(age)
			for _, ch := range nobody() {
				for _, seq := range []int{0, 1, 16, 17, 255} {
					m.refuses(api.Frame{Chan: ch, Seq: seq, Data: mixed(1)}, api.ErrArg)
				}
			}
			for ch := range channels {
				for _, seq := range noNumbers() {
					m.refuses(api.Frame{Chan: ch, Seq: seq, Data: mixed(1)}, api.ErrArg)
				}
				for _, n := range tooLong() {
					m.refuses(api.Frame{Chan: ch, Seq: ch*17 + 1 - ch/15, Data: mixed(n)}, api.ErrArg)
				}
			}
			m.ticks(10)
		}
	}
}

// P7.2: several things beyond the limits, and a telegram that is out of its order besides, are ErrArg.
func TestRefusesSeveral(t *testing.T) {
	m := start(t, span{4, 4})
	m.fill()
	for ch := range channels {
		old := api.Frame{Chan: ch, Seq: ch * 17, Data: mixed(16)}
		m.refuses(old, api.ErrOld)
		old.Data = mixed(17)
		m.refuses(old, api.ErrArg)
		m.refuses(api.Frame{Chan: ch - 16, Seq: ch * 17, Data: mixed(17)}, api.ErrArg)
		m.refuses(api.Frame{Chan: ch + 16, Seq: ch*17 - 256, Data: mixed(1)}, api.ErrArg)
		m.refuses(api.Frame{Chan: ch + 256, Seq: ch*17 + 256, Data: mixed(300)}, api.ErrArg)
		m.refuses(api.Frame{Chan: ch, Seq: ch*17 + 256, Data: mixed(17)}, api.ErrArg)
	}
}

// P7.2: whether a telegram may be is what Encode (6) tells, around each limit.
func TestLimitsOfFrames(t *testing.T) {
	for ch := -2; ch <= 18; ch++ {
		for seq := -2; seq <= 258; seq++ {
			for _, n := range []int{0, 1, 15, 16, 17, 18} {
				f := api.Frame{Chan: ch, Seq: seq, Data: mixed(n)}
				_, want := frame.Encode(f)
				if err := link.New(3).Take(f); !isError(err, fault.Code(want)) {
					t.Fatalf("Take of channel %d, number %d, %d bytes: %v, not %v", ch, seq, n, err, want)
				}
			}
		}
	}
}

// P7.2: what is refused makes no channel fresh again, nor stale: it is fresh as long as it would be without.
func TestRefusedKeepsAge(t *testing.T) {
	for _, s := range short() {
		m := start(t, s)
		m.takes(api.Frame{Chan: 7, Seq: 100, Data: mixed(6)})
		for range s.fresh {
			m.ticks(1)
			for _, seq := range []int{100, 99, 117, 228} {
				m.refuses(api.Frame{Chan: 7, Seq: seq, Data: mixed(9)}, api.ErrOld)
			}
			m.refuses(api.Frame{Chan: 7, Seq: 101, Data: mixed(17)}, api.ErrArg)
			m.refuses(api.Frame{Chan: 7, Seq: -1}, api.ErrArg)
			if b, ok := m.l.Fresh(7); !ok || !bytes.Equal(b, mixed(6)) {
				t.Fatalf("New(%d): % x, %t", s.given, b, ok)
			}
		}
		m.ticks(1)
		if _, ok := m.l.Fresh(7); ok {
			t.Fatalf("New(%d): still fresh", s.given)
		}
		m.refuses(api.Frame{Chan: 7, Seq: 256}, api.ErrArg)
		m.takes(api.Frame{Chan: 7, Seq: 100})
	}
}

// P7.2, P7.3, W5: data of each length are told as they were; no data are nil and empty alike, and are fresh too.
func TestData(t *testing.T) {
	for _, data := range [][]byte{nil, {}, make([]byte, 0, 30), mixed(17)[:0], {0}, {255}, make([]byte, 16), bytes.Repeat([]byte{255}, 16)} {
		m := start(t, span{2, 2})
		m.takes(api.Frame{Chan: 4, Seq: 9, Data: data})
		if b, ok := m.l.Fresh(4); !ok || !bytes.Equal(b, data) {
			t.Errorf("Fresh behind % x: % x, %t", data, b, ok)
		}
		m.takes(api.Frame{Chan: 4, Seq: 10, Data: mixed(5)})
		m.takes(api.Frame{Chan: 4, Seq: 11, Data: data})
		m.ticks(5)
		m.takes(api.Frame{Chan: 4, Seq: 11, Data: data})
	}
	m := start(t, span{100, 100})
	for n := range 200 {
		m.takes(api.Frame{Chan: n % channels, Seq: n, Data: mixed(n * 5 % 17)})
	}
}

// P7.3: of what is no channel nothing is told, also when each channel is fresh, or stale.
func TestNoChannel(t *testing.T) {
	m := start(t, span{3, 3})
	m.fill()
	for range 6 {
		for _, ch := range nobody() {
			tellsNothing(t, m.l, ch)
		}
		m.ticks(1)
	}
}

// P7.1 to P7.3: each channel has a number, data and an age of its own: what is taken of one, or refused, changes no other.
func TestChannelsApart(t *testing.T) {
	for first := range channels {
		m := start(t, span{20, 20})
		for n := range channels {
			ch := (first + n*5) % channels
			m.takes(api.Frame{Chan: ch, Seq: 255 - ch, Data: mixed(ch)})
			m.ticks(1)
		}
		m.ticks(8)
		m.takes(api.Frame{Chan: first, Seq: 255 - first, Data: mixed(16)})
		m.ticks(25)
	}
}

// P7.1 to P7.3: two links are apart, and each has its own span.
func TestLinksApart(t *testing.T) {
	a, b := start(t, span{2, 2}), start(t, span{5, 5})
	a.fill()
	b.holds()
	b.takes(api.Frame{Chan: 0, Seq: 0, Data: mixed(2)})
	b.takes(api.Frame{Chan: 1, Seq: 77, Data: mixed(3)})
	a.ticks(3)
	b.holds()
	b.ticks(5)
	a.takes(api.Frame{Chan: 1, Seq: 17, Data: mixed(4)})
	b.refuses(api.Frame{Chan: 1, Seq: 17}, api.ErrOld)
	a.ticks(4)
	b.holds()
	a.holds()
}

// roomy is b with spare room behind it that is not 0, and all of that memory.
func roomy(b []byte) (part, whole []byte) {
	whole = append(bytes.Clone(b), "spare room, more than data have"...)
	return whole[:len(b)], whole
}

// spoil changes b, and its spare room.
func spoil(b []byte) {
	whole := b[:cap(b)]
	for i := range whole {
		whole[i] ^= 0xa5
	}
}

// P7.4: Take neither changes the data, nor their spare room, nor keeps them, whether it takes them or not.
func TestTakeKeepsNothing(t *testing.T) {
	for n := range 20 {
		for _, seq := range []int{3, 2, 256} {
			m := start(t, span{3, 3})
			m.takes(api.Frame{Chan: 6, Seq: 2, Data: mixed(16)})
			part, whole := roomy(mixed(n))
			before := bytes.Clone(whole)
			m.take(api.Frame{Chan: 6, Seq: seq, Data: part})
			if !bytes.Equal(whole, before) {
				t.Errorf("number %d: Take changed its %d bytes, or what lies behind them", seq, n)
			}
			spoil(whole)
			m.holds()
			before = bytes.Clone(whole)
			m.ticks(5)
			if !bytes.Equal(whole, before) {
				t.Errorf("number %d: the %d bytes changed later on", seq, n)
			}
		}
	}
}

// P7.4: what is answered is new memory, spare room too: to write there changes neither what is kept, nor what was handed in, nor another answer.
func TestAnswersNew(t *testing.T) {
	for n := range 17 {
		m := start(t, span{3, 3})
		part, whole := roomy(mixed(n))
		m.takes(api.Frame{Chan: 11, Seq: 1, Data: part})
		for range 5 {
			before := bytes.Clone(whole)
			answers := askedTwice(m.l, 11)
			for i, spoilt := range answers {
				var others [][]byte
				for _, b := range answers {
					others = append(others, bytes.Clone(b[:cap(b)]))
				}
				spoil(spoilt)
				for j, b := range answers {
					if j != i && !bytes.Equal(b[:cap(b)], others[j]) {
						t.Fatalf("%d bytes: the answer %d changed with the answer %d", n, j, i)
					}
				}
				if !bytes.Equal(whole, before) {
					t.Fatalf("%d bytes: what was handed in changed with the answer %d", n, i)
				}
				m.holds()
			}
			m.ticks(1)
		}
	}
}

// askedTwice is the data of all that can be asked of a channel, twice.
func askedTwice(l *link.Links, ch int) [][]byte {
	var all [][]byte
	for range 2 {
		b, _ := l.Fresh(ch)
		all = append(all, b, l.At(ch).Data)
	}
	return all
}

// P7.4, W2: an answer stays as it was, whatever is taken behind it, and however many ticks go by.
func TestAnswersStay(t *testing.T) {
	m := start(t, span{3, 3})
	m.fill()
	var fresh [channels][]byte
	var at [channels]api.Link
	for ch := range channels {
		fresh[ch], _ = m.l.Fresh(ch)
		at[ch] = m.l.At(ch)
	}
	for ch := range channels {
		m.takes(api.Frame{Chan: ch, Seq: (ch*17 + 1) % 256, Data: bytes.Repeat([]byte{0xee}, ch+1)})
	}
	m.ticks(10)
	m.fill()
	for ch := range channels {
		want := api.Link{Had: true, Seq: ch * 17, Data: mixed(ch + 1)}
		if !bytes.Equal(fresh[ch], want.Data) || !same(at[ch], want) {
			t.Errorf("channel %d: an answer changed later on: % x, %v", ch, fresh[ch], at[ch])
		}
	}
}

// thrown is a telegram by dice: most often one near behind the last number of its channel, now and then one that may not be.
func thrown(m *model, d *dice) api.Frame {
	f := api.Frame{Chan: d.below(channels), Data: mixed(d.below(17))}
	f.Seq = (m.said[f.Chan].seq + d.below(19)) % 256
	switch d.below(12) {
	case 0:
		f.Chan = nobody()[d.below(len(nobody()))]
	case 1:
		f.Seq = noNumbers()[d.below(len(noNumbers()))]
	case 2:
		f.Data = mixed(tooLong()[d.below(4)])
	case 3, 4:
		f.Seq = d.below(256)
	}
	return f
}

// P7.1 to P7.5: long runs by dice, of all spans, held against the model at each step.
func TestByDice(t *testing.T) {
	for n, s := range append(short(), long()...) {
		m, d := start(t, s), dice(n)
		for range 1500 {
			m.take(thrown(m, &d))
			switch d.below(20) {
			case 0, 1, 2, 3, 4, 5, 6:
				m.ticks(1)
			case 7:
				m.skip(d.below(2*s.fresh + 3))
			}
		}
	}
}

// P7.1 to P7.5: several links by turns, each held against its own model.
func TestByDiceByTurns(t *testing.T) {
	all := []*model{start(t, span{1, 1}), start(t, span{2, 2}), start(t, span{9, 9}), start(t, span{9, 9}), start(t, span{7000, 6000})}
	d := dice(99)
	for range 4000 {
		m := all[d.below(len(all))]
		m.take(thrown(m, &d))
		m.skip(d.below(3))
		all[d.below(len(all))].holds()
	}
}

// W1: Links that New did not make do not panic either, though nothing is promised of what they tell.
func TestNotMade(t *testing.T) {
	var l link.Links
	for _, ch := range append(nobody(), 0, 1, 15) {
		l.Take(api.Frame{Chan: ch, Seq: 1, Data: mixed(3)})
		l.Tick()
		l.Fresh(ch)
		l.At(ch)
	}
}
