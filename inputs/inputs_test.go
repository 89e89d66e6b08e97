package inputs_test

import (
	"bytes"
	"errors"
	"reflect"
	"slices"
	"testing"

	"crossbuck/api"
	"crossbuck/crc"
	"crossbuck/fault"
	"crossbuck/frame"
	"crossbuck/inputs"
	"crossbuck/sensor"
)

// channels is how many there are.
const channels = 16

// span is what New is given as fresh, and for how many ticks behind a telegram a channel is fresh then.
type span struct{ given, fresh int }

// short are spans that end soon; those that look fine as fewer bits, too.
func short() []span {
	return []span{{api.MinInt, 1}, {api.MinInt + 5, 1}, {-1<<32 + 5, 1}, {-6000, 1}, {-1, 1}, {0, 1}, {1, 1}, {2, 2}, {3, 3}, {20, 20}}
}

// long are spans up to the most that there may be, and beyond.
func long() []span {
	return []span{{255, 255}, {256, 256}, {257, 257}, {5999, 5999}, {6000, 6000}, {6001, 6000}, {65537, 6000}, {1<<32 + 5, 6000}, {api.MaxInt - 1, 6000}, {api.MaxInt, 6000}}
}

// width is what New is given as tracks, and how many tracks there are then.
type width struct{ given, tracks int }

func widths() []width {
	return []width{
		{api.MinInt, 1}, {api.MinInt + 3, 1}, {-1<<32 + 3, 1}, {-253, 1}, {-8, 1}, {-1, 1}, {0, 1},
		{1, 1}, {2, 2}, {3, 3}, {4, 4}, {5, 5}, {6, 6}, {7, 7}, {8, 8},
		{9, 8}, {10, 8}, {255, 8}, {257, 8}, {65539, 8}, {1 << 32, 8}, {1<<32 + 3, 8}, {api.MaxInt - 1, 8}, {api.MaxInt, 8},
	}
}

// dice are numbers that look like no rule, the same at each run.
type dice uint64

func (d *dice) below(n int) int {
	*d = *d*6364136223846793005 + 1442695040888963407
	return int(uint64(*d)>>33) % n
}

func (d *dice) bytes(n int) []byte {
	b := make([]byte, n)
	for i := range b {
		b[i] = byte(d.below(256))
	}
	return b
}

// telegram is the bytes of the telegram of that channel and number that says data.
func telegram(ch, seq int, data ...byte) []byte {
	return crc.Seal(append([]byte{byte(ch), byte(seq), byte(len(data))}, data...))
}

// restrictive is what is told of so many tracks where nothing is fresh.
func restrictive(tracks int) api.Inputs {
	return api.Inputs{Obstacle: true, Mode: api.ModeClose, Tracks: make([]api.Counts, tracks)}
}

// isError tells whether err is an error of layer 1 of that number, or, of OK, none.
func isError(err error, e api.Errno) bool {
	if e == api.OK {
		return err == nil
	}
	return err != nil && fault.Code(err) == e && len(fault.Path(err)) > 0 && errors.Is(err, e)
}

// tells holds that want is what x tells, asked twice, for being asked changes nothing.
func tells(t *testing.T, x *inputs.Inputs, want api.Inputs) {
	t.Helper()
	for range 2 {
		if got := x.Now(); !reflect.DeepEqual(got, want) {
			t.Fatalf("Now: %+v, not %+v", got, want)
		}
	}
}

// takes holds that x takes b.
func takes(t *testing.T, x *inputs.Inputs, b []byte) {
	t.Helper()
	if err := x.Take(b); err != nil {
		t.Fatalf("Take of % x: %v", b, err)
	}
}

// refuses holds that x refuses b with the error e, and tells the same then.
func refuses(t *testing.T, x *inputs.Inputs, b []byte, e api.Errno) {
	t.Helper()
	before := x.Now()
	if err := x.Take(b); !isError(err, e) {
		t.Fatalf("Take of % x: %v, not %v", b, err, e)
	}
	tells(t, x, before)
}

func ticks(x *inputs.Inputs, n int) {
	for range n {
		x.Tick()
	}
}

// said is what a channel said last, and how many ticks ago, however many these are.
type said struct {
	had  bool
	seq  int
	data []byte
	ago  int
}

// model does what the document says, beside the inputs that are held against it.
type model struct {
	t      *testing.T
	x      *inputs.Inputs
	tracks int
	fresh  int
	said   [channels]said
}

func start(t *testing.T, w width, s span) *model {
	return &model{t: t, x: inputs.New(w.given, s.given), tracks: w.tracks, fresh: s.fresh}
}

func (m *model) isFresh(ch int) bool {
	return m.said[ch].had && m.said[ch].ago <= m.fresh
}

// code is the error that the document tells of b, and the telegram, if there is none.
func (m *model) code(b []byte) (api.Errno, api.Frame) {
	o, ok := crc.Open(b)
	if !ok {
		return api.ErrSum, api.Frame{}
	}
	if len(o) < 3 || o[0] > 15 || o[2] > 16 || len(o) != 3+int(o[2]) {
		return api.ErrForm, api.Frame{}
	}
	f := api.Frame{Chan: int(o[0]), Seq: int(o[1]), Data: o[3:]}
	if !m.isFresh(f.Chan) {
		return api.OK, f
	}
	for n := 1; n <= 16; n++ {
		if (m.said[f.Chan].seq+n)%256 == f.Seq {
			return api.OK, f
		}
	}
	return api.ErrOld, f
}

// note lets the model take b, as the inputs should.
func (m *model) note(b []byte) api.Errno {
	e, f := m.code(b)
	if e == api.OK {
		m.said[f.Chan] = said{had: true, seq: f.Seq, data: f.Data}
	}
	return e
}

func (m *model) take(b []byte) {
	m.t.Helper()
	e := m.note(b)
	if err := m.x.Take(b); !isError(err, e) {
		m.t.Fatalf("Take of % x: %v, not %v", b, err, e)
	}
	m.holds()
}

func (m *model) noteTick() {
	for ch := range m.said {
		m.said[ch].ago++
	}
}

func (m *model) tick() {
	m.t.Helper()
	m.noteTick()
	m.x.Tick()
	m.holds()
}

func (m *model) step(l [][]byte) {
	m.t.Helper()
	m.noteTick()
	want := 0
	for _, b := range l {
		if m.note(b) == api.OK {
			want++
		}
	}
	if got := m.x.Step(l); got != want {
		m.t.Fatalf("Step of % x: %d, not %d", l, got, want)
	}
	m.holds()
}

func (m *model) holds() {
	m.t.Helper()
	tells(m.t, m.x, m.now())
}

// now is what the document tells: of each channel what it says, as sensor (13) reads it.
func (m *model) now() api.Inputs {
	data, ok := [channels][]byte{}, [channels]bool{}
	for ch := range channels {
		if ok[ch] = m.isFresh(ch); ok[ch] {
			data[ch] = m.said[ch].data
		}
	}
	in := api.Inputs{
		Barrier:  sensor.Barrier(data[0], ok[0]),
		Sure:     m.said[0].had && m.said[0].ago == 0,
		Lamps:    sensor.Lamps(data[1], ok[1]),
		Obstacle: sensor.Obstacle(data[2], ok[2]),
		Mode:     sensor.Mode(data[3], ok[3]),
		Routes:   sensor.Routes(data[5], ok[5], m.tracks),
	}
	in.Mains, in.Battery = sensor.Power(data[4], ok[4])
	for n := range m.tracks {
		in.Tracks = append(in.Tracks, sensor.Counts(data[8+n], ok[8+n]))
	}
	return in
}

// P14.3: the document's example: of no telegrams: ModeClose, an obstacle, no track fresh.
func TestExample(t *testing.T) {
	in := inputs.New(3, 10).Now()
	if in.Mode != api.ModeClose || !in.Obstacle || len(in.Tracks) != 3 {
		t.Fatal(in)
	}
	for _, c := range in.Tracks {
		if c.Fresh {
			t.Fatal(in)
		}
	}
}

// P14.1: there are 1 to 8 tracks, whatever New is given; of each the restrictive thing is told ahead of any telegram, and however many ticks go by.
func TestNothingTaken(t *testing.T) {
	for _, w := range widths() {
		for _, s := range append(short(), long()...) {
			x := inputs.New(w.given, s.given)
			tells(t, x, restrictive(w.tracks))
			for range 3 {
				x.Tick()
				tells(t, x, restrictive(w.tracks))
			}
		}
		x := inputs.New(w.given, 5)
		ticks(x, 20000)
		tells(t, x, restrictive(w.tracks))
	}
}

// all has each channel from 0 to 5 and each track's say something that is not the restrictive thing, by telegrams of that number.
func all(seq int) [][]byte {
	l := [][]byte{
		telegram(0, seq, 0b1001), telegram(1, seq, 1), telegram(2, seq, 0),
		telegram(3, seq, api.ModeReset), telegram(4, seq, 0b10), telegram(5, seq, 1),
	}
	for n := range 8 {
		l = append(l, telegram(8+n, seq, byte(10+n), byte(200+n), byte(n%3), byte(n%4)))
	}
	return l
}

// allTold is what is told of that, in the very tick.
func allTold(tracks int) api.Inputs {
	in := api.Inputs{
		Barrier: api.Barrier{EntryDown: true, ExitUp: true},
		Sure:    true, Lamps: true, Mode: api.ModeReset, Battery: true, Routes: 1,
	}
	for n := range tracks {
		in.Tracks = append(in.Tracks, api.Counts{Fresh: true, In: 10 + n, Out: 200 + n, Class: n % 3, Lie: n % 4})
	}
	return in
}

// P14.1, P14.3, P14.6: what telegrams say is told for as many ticks as New was told, at least 1, at most 6000; from the next tick on the restrictive thing is told, for good.
func TestSpans(t *testing.T) {
	for _, w := range widths() {
		for _, s := range short() {
			spanHolds(t, w, s)
		}
	}
	for _, s := range long() {
		spanHolds(t, width{3, 3}, s)
		spanHolds(t, width{api.MaxInt, 8}, s)
	}
}

func spanHolds(t *testing.T, w width, s span) {
	t.Helper()
	x, want := inputs.New(w.given, s.given), allTold(w.tracks)
	for _, b := range all(7) {
		takes(t, x, b)
	}
	tells(t, x, want)
	want.Sure = false
	x.Tick()
	tells(t, x, want)
	ticks(x, s.fresh-1)
	tells(t, x, want)
	for _, more := range []int{1, 1, 2, 50, 300} {
		ticks(x, more)
		tells(t, x, restrictive(w.tracks))
	}
	for _, b := range all(7) {
		takes(t, x, b)
	}
	tells(t, x, allTold(w.tracks))
}

// P14.3, P14.6: each channel is stale by itself: of one that is the restrictive thing is told, whatever the others say.
func TestEachStale(t *testing.T) {
	for n, stale := range all(1) {
		x, want := inputs.New(8, 4), allTold(8)
		takes(t, x, stale)
		x.Tick()
		for i, b := range all(1) {
			if i != n {
				takes(t, x, b)
			}
		}
		if n == 0 {
			want.Sure = false
		}
		tells(t, x, want)
		ticks(x, 3)
		want.Sure = false
		tells(t, x, want)
		x.Tick()
		tells(t, x, without(want, n))
		x.Tick()
		tells(t, x, restrictive(8))
	}
}

// without is in with the restrictive thing in place of what the telegram of that place in all says.
func without(in api.Inputs, place int) api.Inputs {
	none := restrictive(8)
	in.Tracks = slices.Clone(in.Tracks)
	switch place {
	case 0:
		in.Barrier = none.Barrier
	case 1:
		in.Lamps = none.Lamps
	case 2:
		in.Obstacle = none.Obstacle
	case 3:
		in.Mode = none.Mode
	case 4:
		in.Mains, in.Battery = none.Mains, none.Battery
	case 5:
		in.Routes = none.Routes
	default:
		in.Tracks[place-6] = none.Tracks[place-6]
	}
	return in
}

// P14.2: bytes of which Open (2) tells none are ErrSum: none at all, too few, spoilt ones.
func TestRefusesSum(t *testing.T) {
	good := telegram(1, 5, 1)
	rows := [][]byte{
		nil, {}, good[:0], {0}, {255}, {0, 0}, {1, 2}, make([]byte, 5), make([]byte, 21), bytes.Repeat([]byte{255}, 21),
		good[:1], good[:2], good[:3], good[:4], good[:5], good[1:], good[2:], []byte("no telegram at all"),
		{1, 5, 1, 1}, append(bytes.Clone(good), 9), append([]byte{9}, good...), append(bytes.Clone(good), good...),
		make([]byte, 100000),
	}
	for _, x := range []*inputs.Inputs{inputs.New(2, 3), filled(t)} {
		for _, b := range rows {
			refuses(t, x, b, api.ErrSum)
		}
	}
}

// filled is inputs of 8 tracks of which each channel of all said something, as number 7, and is fresh for 9 ticks.
func filled(t *testing.T) *inputs.Inputs {
	t.Helper()
	x := inputs.New(8, 9)
	for _, b := range all(7) {
		takes(t, x, b)
	}
	return x
}

// P14.2, P14.6: sealed bytes of which a bit is turned are ErrSum, whichever bit it is, and change nothing.
func TestRefusesTurned(t *testing.T) {
	x := filled(t)
	for _, b := range all(8) {
		for bit := range 8 * len(b) {
			b[bit/8] ^= 1 << (bit % 8)
			refuses(t, x, b, api.ErrSum)
			b[bit/8] ^= 1 << (bit % 8)
		}
	}
	tells(t, x, allTold(8))
	for _, b := range all(8) {
		takes(t, x, b)
	}
}

// P14.2: sealed bytes that are no telegram are ErrForm: fewer than three, a channel above 15, a third byte above 16, fewer or more bytes behind it than it tells.
func TestRefusesForm(t *testing.T) {
	rows := [][]byte{
		{}, {0}, {1}, {15}, {255}, {0, 0}, {1, 8}, {1, 8, 1}, {1, 8, 2, 1}, {1, 8, 0, 1}, {1, 8, 1, 1, 1}, {1, 8, 1, 1, 0},
		{16, 8, 1, 1}, {17, 8, 1, 1}, {32, 8, 0}, {128, 8, 0}, {255, 8, 1, 1},
		append([]byte{1, 8, 17}, make([]byte, 17)...), append([]byte{1, 8, 18}, make([]byte, 18)...), append([]byte{1, 8, 255}, make([]byte, 255)...),
		append([]byte{1, 8, 16}, make([]byte, 15)...), append([]byte{1, 8, 16}, make([]byte, 17)...),
		append([]byte{1, 8, 0}, make([]byte, 256)...), append([]byte{1, 8, 1}, make([]byte, 257)...), append([]byte{8, 8, 4}, make([]byte, 65540)...),
		{8, 8, 4, 1, 1, 1}, {8, 8, 4, 1, 1, 1, 1, 1}, {8, 8, 3, 1, 1, 1, 1}, {8, 8, 5, 1, 1, 1, 1},
		telegram(1, 8, 1), append(telegram(1, 8, 1), 0),
	}
	for _, x := range []*inputs.Inputs{inputs.New(2, 3), filled(t)} {
		for _, b := range rows {
			refuses(t, x, crc.Seal(b), api.ErrForm)
		}
	}
	for ch := range 256 {
		if ch > 15 {
			refuses(t, filled(t), telegram(ch, 8, 1), api.ErrForm)
			continue
		}
		takes(t, filled(t), telegram(ch, 8, 1))
	}
}

// P14.2: data of each length that there may be are taken, of each channel; of 17 bytes and more they are ErrForm.
func TestLengths(t *testing.T) {
	for ch := range channels {
		for n := range 256 {
			x, b := filled(t), telegram(ch, 8, make([]byte, n)...)
			if n <= 16 {
				takes(t, x, b)
				continue
			}
			refuses(t, x, b, api.ErrForm)
		}
	}
}

// P14.2: behind each number each other one, at each age: while the channel is fresh those from 1 to 16 ahead are taken, all others are ErrOld and change nothing; once it is stale each is taken.
func TestAllNumbers(t *testing.T) {
	for _, age := range []int{0, 1, 3, 4, 9} {
		for last := range 256 {
			x := inputs.New(1, 3)
			for seq := range 256 {
				ahead := (seq - last + 256) % 256
				code, out := api.OK, 2
				if age <= 3 && (ahead == 0 || ahead > 16) {
					code, out = api.ErrOld, 1
				}
				ticks(x, 4)
				takes(t, x, telegram(8, last, 5, 1, 0, 0))
				ticks(x, age)
				if err := x.Take(telegram(8, seq, 5, 2, 0, 0)); !isError(err, code) {
					t.Fatalf("%d behind %d at the age %d: %v, not %v", seq, last, age, err, code)
				}
				want := restrictive(1)
				want.Tracks[0] = api.Counts{Fresh: true, In: 5, Out: out}
				if got := x.Now(); !reflect.DeepEqual(got, want) {
					t.Fatalf("%d behind %d at the age %d: %+v", seq, last, age, got)
				}
			}
		}
	}
}

// P14.2: the numbers around the window, told one by one, of each channel; the same telegram is refused while the channel is fresh, and taken when it is stale.
func TestWindow(t *testing.T) {
	rows := []struct {
		last, seq int
		code      api.Errno
	}{
		{5, 5, api.ErrOld}, {5, 4, api.ErrOld}, {5, 22, api.ErrOld}, {5, 133, api.ErrOld}, {5, 255, api.ErrOld}, {5, 6, api.OK}, {5, 21, api.OK},
		{255, 255, api.ErrOld}, {255, 254, api.ErrOld}, {255, 16, api.ErrOld}, {255, 0, api.OK}, {255, 15, api.OK},
		{0, 0, api.ErrOld}, {0, 255, api.ErrOld}, {0, 17, api.ErrOld}, {0, 240, api.ErrOld}, {0, 1, api.OK}, {0, 16, api.OK},
		{240, 0, api.OK}, {240, 1, api.ErrOld}, {239, 255, api.OK}, {239, 0, api.ErrOld}, {250, 9, api.OK}, {250, 10, api.OK}, {250, 11, api.ErrOld},
	}
	for ch := range channels {
		for _, r := range rows {
			for _, s := range short() {
				x := inputs.New(8, s.given)
				takes(t, x, telegram(ch, r.last, 1))
				ticks(x, s.fresh)
				if r.code == api.OK {
					takes(t, x, telegram(ch, r.seq, 1))
					continue
				}
				refuses(t, x, telegram(ch, r.seq, 1), r.code)
				x.Tick()
				takes(t, x, telegram(ch, r.seq, 1))
				refuses(t, x, telegram(ch, r.seq, 1), api.ErrOld)
			}
		}
	}
}

// P14.2, W4: of bytes that are several of these the one named first is told: the sum, the form, the number.
func TestFirstNamed(t *testing.T) {
	x := filled(t)
	refuses(t, x, telegram(1, 7, 1), api.ErrOld)
	for _, form := range [][]byte{{1, 7}, {1, 7, 2, 1}, {1, 7, 0, 1}, {17, 7, 1, 1}, append([]byte{1, 7, 17}, make([]byte, 17)...)} {
		refuses(t, x, crc.Seal(form), api.ErrForm)
		spoilt := crc.Seal(form)
		spoilt[len(spoilt)-1] ^= 1
		refuses(t, x, spoilt, api.ErrSum)
	}
	old := telegram(1, 7, 1)
	old[4] ^= 128
	refuses(t, x, old, api.ErrSum)
	tells(t, x, allTold(8))
}

// P14.2: the telegrams that frame (6) encodes are taken.
func TestEncoded(t *testing.T) {
	x := inputs.New(1, 2)
	for ch := range channels {
		for n := range 17 {
			b, err := frame.Encode(api.Frame{Chan: ch, Seq: (250 + n) % 256, Data: make([]byte, n)})
			if err != nil {
				t.Fatal(err)
			}
			takes(t, x, b)
			refuses(t, x, b, api.ErrOld)
		}
	}
}

// P14.2: a tick makes each channel a tick older, so that each is stale in its own time.
func TestTick(t *testing.T) {
	for _, s := range short() {
		m := start(t, width{8, 8}, s)
		for round := range 4 {
			for _, b := range all(30 * round) {
				m.take(b)
				m.tick()
			}
			for range s.fresh + 2 {
				m.tick()
			}
		}
	}
}

// P14.2: a channel is fresh as long as telegrams come often enough.
func TestKeptFresh(t *testing.T) {
	for _, s := range short() {
		x := inputs.New(1, s.given)
		for n := range 600 {
			takes(t, x, telegram(1, n%256, 1))
			ticks(x, s.fresh)
			if !x.Now().Lamps {
				t.Fatalf("New(1, %d), telegram %d: the lamps are not told", s.given, n)
			}
		}
	}
}

// reading is what a channel says, and what is told of it then.
type reading struct {
	ch   int
	data []byte
	want func(in *api.Inputs)
}

func readings() []reading {
	barrier := func(w api.Barrier) func(*api.Inputs) {
		return func(in *api.Inputs) { in.Barrier = w }
	}
	nothing := func(*api.Inputs) {}
	return []reading{
		{0, nil, nothing}, {0, []byte{0}, nothing}, {0, []byte{1}, barrier(api.Barrier{EntryDown: true})}, {0, []byte{2}, barrier(api.Barrier{EntryUp: true})},
		{0, []byte{4}, barrier(api.Barrier{ExitDown: true})}, {0, []byte{8}, barrier(api.Barrier{ExitUp: true})}, {0, []byte{5}, barrier(api.Barrier{EntryDown: true, ExitDown: true})},
		{0, []byte{10}, barrier(api.Barrier{EntryUp: true, ExitUp: true})}, {0, []byte{3}, nothing}, {0, []byte{7}, barrier(api.Barrier{ExitDown: true})},
		{0, []byte{15}, nothing}, {0, []byte{16}, nothing}, {0, []byte{21}, nothing}, {0, []byte{5, 5}, nothing}, {0, []byte{5, 0, 0}, nothing}, {0, make([]byte, 16), nothing},
		{1, nil, nothing}, {1, []byte{0}, nothing}, {1, []byte{1}, func(in *api.Inputs) { in.Lamps = true }}, {1, []byte{2}, nothing}, {1, []byte{255}, nothing}, {1, []byte{1, 1}, nothing},
		{2, nil, nothing}, {2, []byte{0}, func(in *api.Inputs) { in.Obstacle = false }}, {2, []byte{1}, nothing}, {2, []byte{2}, nothing}, {2, []byte{0, 0}, nothing},
		{3, nil, nothing}, {3, []byte{0}, func(in *api.Inputs) { in.Mode = api.ModeAuto }}, {3, []byte{1}, nothing}, {3, []byte{2}, func(in *api.Inputs) { in.Mode = api.ModeReset }}, {3, []byte{3}, nothing}, {3, []byte{0, 0}, nothing},
		{4, nil, nothing}, {4, []byte{0}, nothing}, {4, []byte{1}, func(in *api.Inputs) { in.Mains = true }}, {4, []byte{2}, func(in *api.Inputs) { in.Battery = true }},
		{4, []byte{3}, func(in *api.Inputs) { in.Mains, in.Battery = true, true }}, {4, []byte{4}, nothing}, {4, []byte{7}, nothing}, {4, []byte{3, 3}, nothing},
		{5, nil, nothing}, {5, []byte{0}, nothing}, {5, []byte{1}, func(in *api.Inputs) { in.Routes = 1 }}, {5, []byte{7}, func(in *api.Inputs) { in.Routes = 7 }}, {5, []byte{8}, nothing}, {5, []byte{255}, nothing}, {5, []byte{1, 1}, nothing},
		{8, nil, nothing}, {8, []byte{9, 7, 1, 3}, func(in *api.Inputs) { in.Tracks[0] = api.Counts{Fresh: true, In: 9, Out: 7, Class: 1, Lie: 3} }},
		{9, []byte{0, 0, 0, 0}, func(in *api.Inputs) { in.Tracks[1] = api.Counts{Fresh: true} }},
		{10, []byte{255, 254, 2, 0}, func(in *api.Inputs) { in.Tracks[2] = api.Counts{Fresh: true, In: 255, Out: 254, Class: 2} }},
		{8, []byte{9, 7, 3, 3}, nothing}, {9, []byte{9, 7, 1, 4}, nothing}, {10, []byte{9, 7, 1}, nothing}, {10, []byte{9, 7, 1, 3, 0}, nothing}, {8, []byte{1}, nothing},
	}
}

// P14.3: what each channel says, right or not, told one by one, with 3 tracks: up to the last tick at which it is fresh; then it is stale.
func TestReadings(t *testing.T) {
	for _, r := range readings() {
		x, want := inputs.New(3, 4), restrictive(3)
		r.want(&want)
		takes(t, x, telegram(r.ch, 100, r.data...))
		for age := range 5 {
			want.Sure = r.ch == api.ChanBarrier && age == 0
			tells(t, x, want)
			x.Tick()
		}
		tells(t, x, restrictive(3))
	}
}

// P14.3: each byte alone, of each channel, is what sensor reads; so are no bytes, and more of them.
func TestAllBytes(t *testing.T) {
	for _, w := range widths() {
		m := start(t, w, span{30, 30})
		for n := range 256 {
			for ch := range channels {
				m.take(telegram(ch, n, byte(n)))
			}
			m.tick()
		}
		for n := range 17 {
			for ch := range channels {
				m.take(telegram(ch, n, make([]byte, n)...))
			}
			m.tick()
		}
	}
}

// P14.3: each byte of what a track's channel says, at its place, of each of its tracks.
func TestAllCounts(t *testing.T) {
	m := start(t, width{8, 8}, span{30, 30})
	seq := 0
	for place := range 4 {
		for n := range 256 {
			data := []byte{1, 2, 0, 3}
			data[place] = byte(n)
			seq++
			m.take(telegram(8+(n+seq/256)%8, seq, data...))
			m.tick()
			for ch := range channels {
				m.take(telegram(ch, seq, data...))
			}
		}
	}
}

// P14.3: routes are those of the tracks that there are.
func TestRoutes(t *testing.T) {
	for _, w := range widths() {
		for n := range 256 {
			x, want := inputs.New(w.given, 3), restrictive(w.tracks)
			takes(t, x, telegram(5, 1, byte(n)))
			if n < []int{1, 2, 4, 8, 16, 32, 64, 128, 256}[w.tracks] {
				want.Routes = n
			}
			tells(t, x, want)
		}
	}
}

// P14.3: each track is told by the channel of its place, and by no other; channels 6, 7, and those behind the last track's, tell nothing.
func TestTracks(t *testing.T) {
	data := []byte{4, 3, 2, 1}
	for _, w := range widths() {
		for ch := 6; ch < channels; ch++ {
			x, want := inputs.New(w.given, 3), restrictive(w.tracks)
			takes(t, x, telegram(ch, 1, data...))
			if place := ch - 8; place >= 0 && place < w.tracks {
				want.Tracks[place] = api.Counts{Fresh: true, In: 4, Out: 3, Class: 2, Lie: 1}
			}
			tells(t, x, want)
		}
	}
}

// P14.3: of channels that tell nothing each telegram changes nothing that Now tells, whatever the others say.
func TestNobodys(t *testing.T) {
	for _, w := range widths() {
		x, want := inputs.New(w.given, 9), allTold(w.tracks)
		for _, b := range all(7) {
			takes(t, x, b)
		}
		for round := range 4 {
			for ch := range channels {
				if ch != 6 && ch != 7 && ch < 8+w.tracks {
					continue
				}
				for n, data := range [][]byte{nil, {0}, {1}, {9, 7, 1, 3}, make([]byte, 16)} {
					takes(t, x, telegram(ch, 8+5*round+n, data...))
					tells(t, x, want)
				}
			}
			x.Tick()
			want.Sure = false
		}
	}
}

// P14.3: Sure is true just when a telegram of channel 0 was taken since the last tick, whatever it says.
func TestSure(t *testing.T) {
	for _, data := range [][]byte{nil, {0}, {5}, {3}, {15}, {16}, {255}, {5, 5}, make([]byte, 16)} {
		for _, s := range append(short(), span{6000, 6000}) {
			x := inputs.New(2, s.given)
			for seq := range 40 {
				sure(t, x, false)
				takes(t, x, telegram(0, seq, data...))
				sure(t, x, true)
				takes(t, x, telegram(1, seq, data...))
				refuses(t, x, telegram(0, seq, data...), api.ErrOld)
				sure(t, x, true)
				x.Tick()
				sure(t, x, false)
				ticks(x, seq%3*(s.fresh%7))
			}
		}
	}
}

func sure(t *testing.T, x *inputs.Inputs, want bool) {
	t.Helper()
	if got := x.Now().Sure; got != want {
		t.Fatalf("Sure: %t, not %t", got, want)
	}
}

// P14.3: telegrams of channel 0 that are refused, and those of other channels, make nothing sure.
func TestNotSure(t *testing.T) {
	x := inputs.New(2, 5)
	for ch := 1; ch < channels; ch++ {
		takes(t, x, telegram(ch, 1, 5))
		sure(t, x, false)
	}
	spoilt := telegram(0, 1, 5)
	spoilt[3] ^= 1
	none := crc.Seal([]byte{0, 1, 2, 5})
	refuses(t, x, spoilt, api.ErrSum)
	refuses(t, x, none, api.ErrForm)
	sure(t, x, false)
	takes(t, x, telegram(0, 1, 5))
	for range 5 {
		x.Tick()
		for _, seq := range []int{1, 0, 18, 255} {
			refuses(t, x, telegram(0, seq, 5), api.ErrOld)
		}
		refuses(t, x, spoilt, api.ErrSum)
		refuses(t, x, none, api.ErrForm)
		sure(t, x, false)
	}
	x.Tick()
	sure(t, x, false)
	takes(t, x, telegram(0, 1, 5))
	sure(t, x, true)
}

// P14.3: Sure is kept apart from how long a channel is fresh: where the barriers are is told for as long as that, Sure but at once.
func TestSureAge(t *testing.T) {
	x := inputs.New(1, 3)
	takes(t, x, telegram(0, 9, 5))
	want := restrictive(1)
	want.Barrier = api.Barrier{EntryDown: true, ExitDown: true}
	for age := range 4 {
		want.Sure = age == 0
		tells(t, x, want)
		x.Tick()
	}
	tells(t, x, restrictive(1))
}

// P14.4: Step of no telegrams is a tick.
func TestStepOfNone(t *testing.T) {
	for _, none := range [][][]byte{nil, {}, all(1)[:0]} {
		x := inputs.New(2, 3)
		for _, b := range all(1) {
			takes(t, x, b)
		}
		want := allTold(2)
		want.Sure = false
		for range 3 {
			if n := x.Step(none); n != 0 {
				t.Fatal(n)
			}
			tells(t, x, want)
		}
		if n := x.Step(none); n != 0 {
			t.Fatal(n)
		}
		tells(t, x, restrictive(2))
	}
}

// P14.4: how many of the telegrams of a step told no error, told one by one; and what is told of the lamps then. (Number 5 of them was taken ahead of it.)
func TestStepCounts(t *testing.T) {
	on, off := byte(1), byte(0)
	spoilt := telegram(1, 6, on)
	spoilt[1]++
	none := crc.Seal([]byte{1, 6})
	rows := []struct {
		name  string
		l     [][]byte
		want  int
		lamps bool
	}{
		{"one", [][]byte{telegram(1, 6, on)}, 1, true},
		{"one that is old", [][]byte{telegram(1, 5, on)}, 0, false},
		{"no bytes", [][]byte{nil}, 0, false},
		{"no bytes, three times", [][]byte{nil, {}, nil}, 0, false},
		{"spoilt", [][]byte{spoilt}, 0, false},
		{"no form", [][]byte{none}, 0, false},
		{"spoilt ahead of one", [][]byte{spoilt, telegram(1, 6, on)}, 1, true},
		{"no form ahead of one", [][]byte{none, telegram(1, 6, on)}, 1, true},
		{"none ahead of one", [][]byte{nil, telegram(1, 6, on), {}}, 1, true},
		{"old ahead of one", [][]byte{telegram(1, 5, off), telegram(1, 6, on)}, 1, true},
		{"one ahead of all others", [][]byte{telegram(1, 6, on), spoilt, none, nil, telegram(1, 4, off)}, 1, true},
		{"the same twice", [][]byte{telegram(1, 6, on), telegram(1, 6, on)}, 1, true},
		{"the same number twice", [][]byte{telegram(1, 6, on), telegram(1, 6, off)}, 1, true},
		{"the same number twice, the other first", [][]byte{telegram(1, 6, off), telegram(1, 6, on)}, 1, false},
		{"two in order", [][]byte{telegram(1, 6, off), telegram(1, 7, on)}, 2, true},
		{"two, the later one first", [][]byte{telegram(1, 7, on), telegram(1, 6, off)}, 1, true},
		{"two that go far", [][]byte{telegram(1, 21, off), telegram(1, 37, on)}, 2, true},
		{"two that go too far", [][]byte{telegram(1, 37, on), telegram(1, 21, off)}, 1, false},
		{"of several channels", [][]byte{telegram(0, 6, 5), telegram(1, 6, on), telegram(9, 6, 1, 1, 1, 1), telegram(15, 6), telegram(6, 6)}, 5, true},
		{"the same number of several channels", [][]byte{telegram(2, 5, on), telegram(3, 5, on), telegram(1, 5, on)}, 2, false},
	}
	for _, r := range rows {
		x := inputs.New(2, 3)
		takes(t, x, telegram(1, 5, off))
		if n := x.Step(r.l); n != r.want {
			t.Errorf("%s: %d, not %d", r.name, n, r.want)
		}
		if lamps := x.Now().Lamps; lamps != r.lamps {
			t.Errorf("%s: lamps %t", r.name, lamps)
		}
	}
}

// P14.4: the tick is ahead of the telegrams: what came with a step is of this tick, and a channel that is stale by it takes any number.
func TestStepTicksFirst(t *testing.T) {
	x := inputs.New(1, 2)
	if n := x.Step([][]byte{telegram(0, 9, 5), telegram(1, 9, 1)}); n != 2 {
		t.Fatal(n)
	}
	want := restrictive(1)
	want.Barrier = api.Barrier{EntryDown: true, ExitDown: true}
	want.Sure, want.Lamps = true, true
	tells(t, x, want)
	want.Sure = false
	for range 2 {
		if n := x.Step([][]byte{telegram(0, 9, 5), telegram(1, 8, 0)}); n != 0 {
			t.Fatal(n)
		}
		tells(t, x, want)
	}
	if n := x.Step([][]byte{telegram(0, 9, 10), telegram(1, 8, 1)}); n != 2 {
		t.Fatal(n)
	}
	want.Barrier = api.Barrier{EntryUp: true, ExitUp: true}
	want.Sure = true
	tells(t, x, want)
}

// P14.4: Step is Tick and then Take of each, in order, with many telegrams too, of which some are out of their order.
func TestStepIsTickAndTakes(t *testing.T) {
	var l [][]byte
	for n := range 5000 {
		l = append(l, telegram(n%channels, n/channels+n%7, byte(n)))
	}
	a, b := inputs.New(8, 4), inputs.New(8, 4)
	for range 7 {
		b.Tick()
		want := 0
		for _, r := range l {
			if b.Take(r) == nil {
				want++
			}
		}
		if got := a.Step(l); got != want || want < 100 || want > 4900 {
			t.Fatalf("%d, not %d", got, want)
		}
		tells(t, a, b.Now())
		slices.Reverse(l[:200])
	}
}

// roomy is b with spare room behind it that is not 0, and all of that memory.
func roomy(b []byte) (part, whole []byte) {
	whole = append(bytes.Clone(b), "spare room, more than data have"...)
	return whole[:len(b)], whole
}

// spoil changes b, and its spare room.
func spoil(b []byte) {
	whole := b[:cap(b)]
	for i := range whole {
		whole[i] ^= 0xa5
	}
}

// handed are bytes of each kind: telegrams that are taken, ones that are old, and bytes that are none.
func handed() [][]byte {
	spoilt := telegram(1, 9, 1)
	spoilt[2] ^= 4
	return slices.Concat(all(8), all(7), [][]byte{spoilt, crc.Seal([]byte{1}), {}, {1}, telegram(6, 1, 9, 9), telegram(8, 9, make([]byte, 16)...)})
}

// P14.5, W6: Take neither changes what it is handed, nor its spare room, nor keeps it, whether it takes it or not.
func TestTakeKeepsNothing(t *testing.T) {
	for _, b := range handed() {
		x, y := filled(t), filled(t)
		part, whole := roomy(b)
		before := bytes.Clone(whole)
		x.Take(part)
		y.Take(b)
		if !bytes.Equal(whole, before) {
			t.Fatalf("Take changed % x, or what lies behind it", b)
		}
		spoil(whole)
		before = bytes.Clone(whole)
		for range 12 {
			tells(t, x, y.Now())
			x.Tick()
			y.Tick()
		}
		if !bytes.Equal(whole, before) {
			t.Fatalf("% x changed later on", b)
		}
	}
}

// P14.5, W6: Step neither changes the list, its rows, or the spare room of these, nor keeps any.
func TestStepKeepsNothing(t *testing.T) {
	var list, copies [][]byte
	var wholes, before [][]byte
	for _, b := range handed() {
		part, whole := roomy(b)
		list, copies = append(list, part), append(copies, b)
		wholes, before = append(wholes, whole), append(before, bytes.Clone(whole))
	}
	extra := []byte("a row behind the list")
	list = append(list, extra)
	l := list[:len(list)-1]
	x, y := filled(t), filled(t)
	if got, want := x.Step(l), y.Step(copies); got != want {
		t.Fatalf("%d, not %d", got, want)
	}
	for n, whole := range wholes {
		if !bytes.Equal(whole, before[n]) || len(l[n]) != len(copies[n]) || cap(l[n]) != cap(whole) || len(l[n]) > 0 && &l[n][0] != &whole[0] {
			t.Fatalf("Step changed the row %d", n)
		}
	}
	if string(list[len(l)]) != "a row behind the list" {
		t.Fatal("Step changed what lies behind the list")
	}
	for n := range l {
		spoil(l[n])
		l[n] = nil
	}
	for range 12 {
		tells(t, x, y.Now())
		x.Tick()
		y.Tick()
	}
}

// P14.5, W6: what Now answers is new memory, spare room too: written over, it changes nothing that is told later, nor another answer.
func TestAnswersNew(t *testing.T) {
	for _, w := range widths() {
		x, want := inputs.New(w.given, 3), allTold(w.tracks)
		for _, b := range all(7) {
			takes(t, x, b)
		}
		first, second := x.Now(), x.Now()
		for age := range 6 {
			over(first.Tracks)
			if !reflect.DeepEqual(second, want) {
				t.Fatalf("an answer changed with another: %+v", second)
			}
			tells(t, x, want)
			x.Tick()
			want.Sure = false
			if age == 3 {
				want = restrictive(w.tracks)
			}
			first, second = x.Now(), x.Now()
		}
	}
}

// over writes over c, and its spare room.
func over(c []api.Counts) {
	c = c[:cap(c)]
	for n := range c {
		c[n] = api.Counts{Fresh: !c[n].Fresh, In: -1, Out: -2, Class: 9, Lie: 8}
	}
}

// P14.5, W2: an answer stays as it was, whatever is taken behind it, and however many ticks go by.
func TestAnswersStay(t *testing.T) {
	x := filled(t)
	old := x.Now()
	for ch := range channels {
		takes(t, x, telegram(ch, 8, 1, 1, 1, 1))
	}
	ticks(x, 20)
	if !reflect.DeepEqual(old, allTold(8)) {
		t.Fatalf("an answer changed later on: %+v", old)
	}
}

// P14.5, W2: two inputs do not touch each other, nor does one that is told nothing change with others.
func TestApart(t *testing.T) {
	a, b, none := start(t, width{2, 2}, span{2, 2}), start(t, width{5, 5}, span{4, 4}), inputs.New(8, 9)
	for seq := range 40 {
		for n, r := range all(seq * 3) {
			if n%3 != 0 {
				a.take(r)
			}
			if n%4 != seq%4 {
				b.take(r)
			}
			a.holds()
			tells(t, none, restrictive(8))
		}
		a.tick()
		b.holds()
		if seq%5 == 0 {
			b.tick()
			b.tick()
			a.holds()
		}
	}
}

// thrown is bytes by dice: most often a telegram near behind the last number of its channel, that says what may be; now and then one that is spoilt, or none.
func thrown(m *model, d *dice) []byte {
	ch := d.below(channels)
	seq := m.said[ch].seq + d.below(20)
	if d.below(6) == 0 {
		seq = d.below(256)
	}
	data := []byte{byte(d.below(18))}
	switch {
	case d.below(9) == 0:
		data = d.bytes(d.below(17))
	case d.below(9) == 0:
		data = d.bytes(1)
	case ch >= 8:
		data = []byte{byte(d.below(256)), byte(d.below(256)), byte(d.below(4) % 3), byte(d.below(5) % 4)}
	}
	b := telegram(ch, seq, data...)
	switch d.below(15) {
	case 0:
		b[d.below(len(b))] ^= 1 << d.below(8)
	case 1:
		b = crc.Seal(b[:d.below(len(b)-1)])
	case 2:
		b = d.bytes(d.below(25))
	}
	return b
}

// P14.1 to P14.5: long runs by dice, of all tracks and spans, held against the model at each step.
func TestByDice(t *testing.T) {
	for n, w := range widths() {
		for k, s := range append(short(), span{6000, 6000}, span{api.MaxInt, 6000}) {
			m, d := start(t, w, s), dice(100*n+k)
			for range 200 {
				switch d.below(3) {
				case 0:
					m.take(thrown(m, &d))
				case 1:
					for range d.below(3) {
						m.tick()
					}
				case 2:
					var l [][]byte
					for range d.below(7) {
						l = append(l, thrown(m, &d))
					}
					m.step(l)
				}
			}
		}
	}
}

// P14.6: a telegram that is refused changes nothing: inputs that it is handed to tell the same as inputs that it is not handed to, then and later.
func TestRefusedChangesNothing(t *testing.T) {
	for n, s := range short() {
		m, d := start(t, width{8, 8}, s), dice(n)
		clean := inputs.New(8, s.given)
		refused := 0
		for range 1500 {
			b := thrown(m, &d)
			if e, _ := m.code(b); e == api.OK {
				takes(t, clean, b)
			} else {
				refused++
			}
			m.take(b)
			tells(t, clean, m.x.Now())
			if d.below(4) == 0 {
				m.tick()
				clean.Tick()
				tells(t, clean, m.x.Now())
			}
		}
		if refused < 200 {
			t.Fatalf("but %d telegrams were refused", refused)
		}
	}
}

// P14.6: telegrams that are refused keep no channel fresh: of one that is stale the restrictive thing is told, though they go on to come.
func TestRefusedKeepsNothingFresh(t *testing.T) {
	for _, s := range short() {
		x, want := inputs.New(8, s.given), allTold(8)
		for _, b := range all(7) {
			takes(t, x, b)
		}
		want.Sure = false
		for range s.fresh {
			x.Tick()
			for _, b := range all(7) {
				refuses(t, x, b, api.ErrOld)
			}
			for _, b := range all(8) {
				refuses(t, x, b[:len(b)-1], api.ErrSum)
				refuses(t, x, crc.Seal(b), api.ErrForm)
			}
			tells(t, x, want)
		}
		x.Tick()
		tells(t, x, restrictive(8))
	}
}

// W1: bytes of any length and content end, and panic nowhere; so do steps of very many rows.
func TestAnyBytes(t *testing.T) {
	x, d := inputs.New(8, 3), dice(3)
	for n := range 400 {
		b := d.bytes(n)
		x.Take(b)
		x.Take(crc.Seal(b))
		if n > 2 {
			b[0], b[2] = b[0]%16, byte(n-3)
			x.Take(crc.Seal(b))
		}
		x.Now()
	}
	big := make([]byte, 1<<20)
	refuses(t, x, big, api.ErrSum)
	refuses(t, x, crc.Seal(big), api.ErrForm)
	if n := x.Step(make([][]byte, 1<<20)); n != 0 {
		t.Fatal(n)
	}
}
