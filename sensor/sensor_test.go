package sensor_test

import (
	"bytes"
	"slices"
	"testing"

	"crossbuck/api"
	"crossbuck/sensor"
)

const (
	least = api.MinInt
	most  = api.MaxInt
)

// dice are numbers that look like no rule, the same at each run.
type dice uint64

func (d *dice) bits() uint64 {
	*d = *d*6364136223846793005 + 1442695040888963407
	return uint64(*d)
}

func (d *dice) below(n int) int {
	return int(d.bits()>>33) % n
}

func (d *dice) bool() bool {
	return d.below(2) == 0
}

// number is one from 0 to n - 1 mostly, else one of any width and sign, or near the ends of a byte.
func (d *dice) number(n int) int {
	if d.below(8) > 0 {
		return d.below(n)
	}
	if d.bool() {
		return []int{-1, n, n + 1, 255, 256, least, most}[d.below(7)]
	}
	high, low := d.bits(), d.bits()
	return int(high<<32^low>>16) >> d.below(64)
}

func (d *dice) counts() api.Counts {
	if d.below(6) == 0 {
		return api.Counts{}
	}
	return api.Counts{Fresh: d.below(8) > 0, In: d.number(256), Out: d.number(256), Class: d.number(3), Lie: d.number(4)}
}

func (d *dice) inputs() api.Inputs {
	in := api.Inputs{
		Barrier: api.Barrier{EntryDown: d.bool(), EntryUp: d.bool(), ExitDown: d.bool(), ExitUp: d.bool()},
		Sure:    d.bool(), Lamps: d.bool(), Obstacle: d.bool(), Mode: d.number(3),
		Mains: d.bool(), Battery: d.bool(), Routes: d.number(256),
	}
	for range d.below(11) {
		in.Tracks = append(in.Tracks, d.counts())
	}
	return in
}

// said is all that is told of one channel by the calls that read.
type said struct {
	barrier        api.Barrier
	lamps          bool
	obstacle       bool
	mode           int
	mains, battery bool
	routes         int
	counts         api.Counts
}

// silence is the restrictive thing.
var silence = said{obstacle: true, mode: api.ModeClose}

// read asks every call that reads, and holds that b, with what lies in its spare room, is left as it was.
func read(t *testing.T, b []byte, ok bool, tracks int) said {
	t.Helper()
	was := bytes.Clone(b[:cap(b)])
	s := said{
		barrier: sensor.Barrier(b, ok), lamps: sensor.Lamps(b, ok), obstacle: sensor.Obstacle(b, ok),
		mode: sensor.Mode(b, ok), routes: sensor.Routes(b, ok, tracks), counts: sensor.Counts(b, ok),
	}
	s.mains, s.battery = sensor.Power(b, ok)
	if !bytes.Equal(b[:cap(b)], was) {
		t.Fatalf("of %d: handed in %d, behind it %d", b, was, b[:cap(b)])
	}
	return s
}

// roomy is b with bytes in its spare room that would say something, were they read.
func roomy(b ...byte) []byte {
	return append(slices.Clone(b), 1, 0, 2, 3, 1)[:len(b)]
}

// silent holds that of b the restrictive thing is read by all calls.
func silent(t *testing.T, b []byte, ok bool) {
	t.Helper()
	if got := read(t, b, ok, 8); got != silence {
		t.Errorf("of %d, %t: %+v", b, ok, got)
	}
}

// each holds a reading call against what is wanted of it, of each byte alone.
func each[T comparable](t *testing.T, call func(b []byte, ok bool) T, want func(n int) T) {
	t.Helper()
	for n := range 256 {
		if got := call(roomy(byte(n)), true); got != want(n) {
			t.Errorf("of the byte %d: %+v, not %+v", n, got, want(n))
		}
	}
}

// P13.2: the document's examples.
func TestExamples(t *testing.T) {
	if got := sensor.Mode(nil, true); got != 1 {
		t.Errorf("Mode of nothing: %d", got)
	}
	if !sensor.Obstacle(nil, true) {
		t.Error("Obstacle of nothing: false")
	}
}

// P13.1 to P13.4, P13.7: of nothing the restrictive thing is read, whether it is nil or empty, and of whatever it is that is not to count.
func TestNothing(t *testing.T) {
	for _, ok := range []bool{true, false} {
		silent(t, nil, ok)
		silent(t, []byte{}, ok)
		silent(t, roomy(), ok)
	}
	for n := range 256 {
		silent(t, []byte{byte(n)}, false)
		silent(t, roomy(byte(n)), false)
		silent(t, roomy(byte(n), 1), false)
		silent(t, roomy(5, byte(n), 2), false)
		silent(t, roomy(byte(n), 5, 2, 3), false)
		silent(t, roomy(9, 5, byte(n), 0), false)
		silent(t, roomy(1, 0, 0, 0, byte(n)), false)
	}
}

// P13.1 to P13.3: two and more bytes are none that may be, whatever the first and the last of them are; P13.4: but four may be counts.
func TestMoreBytes(t *testing.T) {
	for n := range 256 {
		for _, other := range []byte{0, 1, 2, 3, 4, 16, 255} {
			silent(t, roomy(byte(n), other), true)
			silent(t, roomy(other, byte(n)), true)
			silent(t, roomy(byte(n), other, other), true)
			silent(t, roomy(byte(n), 0, 0, other, 0), true)
			silent(t, roomy(0, 0, 0, 0, 0, other, byte(n)), true)
			got := read(t, roomy(byte(n), other, 1, 2), true, 8)
			want := silence
			want.counts = api.Counts{Fresh: true, In: n, Out: int(other), Class: 1, Lie: 2}
			if got != want {
				t.Errorf("of %d %d 1 2: %+v", n, other, got)
			}
		}
	}
	for _, size := range []int{8, 16, 17, 256, 257, 260, 65537, 65540} {
		silent(t, make([]byte, size), true)
		silent(t, bytes.Repeat([]byte{1}, size), true)
	}
}

// barriers are what the bytes below 16 tell.
var barriers = [16]api.Barrier{
	0:  {},
	1:  {EntryDown: true},
	2:  {EntryUp: true},
	3:  {},
	4:  {ExitDown: true},
	5:  {EntryDown: true, ExitDown: true},
	6:  {EntryUp: true, ExitDown: true},
	7:  {ExitDown: true},
	8:  {ExitUp: true},
	9:  {EntryDown: true, ExitUp: true},
	10: {EntryUp: true, ExitUp: true},
	11: {ExitUp: true},
	12: {},
	13: {EntryDown: true},
	14: {EntryUp: true},
	15: {},
}

// P13.1: each of the sixteen bytes, and that the others tell nothing.
func TestBarrier(t *testing.T) {
	each(t, sensor.Barrier, func(n int) api.Barrier {
		if n < 16 {
			return barriers[n]
		}
		return api.Barrier{}
	})
}

// P13.2: of each byte.
func TestLampsObstacleMode(t *testing.T) {
	each(t, sensor.Lamps, func(n int) bool { return n == 1 })
	each(t, sensor.Obstacle, func(n int) bool { return n != 0 })
	each(t, sensor.Mode, func(n int) int {
		switch n {
		case 0, 2:
			return n
		}
		return 1
	})
}

// P13.3: of each byte.
func TestPower(t *testing.T) {
	known := [4][2]bool{{false, false}, {true, false}, {false, true}, {true, true}}
	power := func(b []byte, ok bool) [2]bool {
		mains, battery := sensor.Power(b, ok)
		return [2]bool{mains, battery}
	}
	each(t, power, func(n int) [2]bool {
		if n < 4 {
			return known[n]
		}
		return [2]bool{}
	})
}

// routes are numbers of tracks, and the least byte that no route of so many has.
var routes = [][2]int{
	{least, 1}, {least + 1, 1}, {-1 << 32, 1}, {-64, 1}, {-8, 1}, {-2, 1}, {-1, 1},
	{0, 1}, {1, 2}, {2, 4}, {3, 8}, {4, 16}, {5, 32}, {6, 64}, {7, 128}, {8, 256},
	{9, 256}, {10, 256}, {31, 256}, {62, 256}, {63, 256}, {64, 256}, {65, 256}, {256, 256}, {1 << 32, 256}, {most - 1, 256}, {most, 256},
}

// P13.3: of each byte, with few tracks and many, and with numbers of tracks that none has.
func TestRoutes(t *testing.T) {
	for _, row := range routes {
		tracks, beyond := row[0], row[1]
		each(t, func(b []byte, ok bool) int { return sensor.Routes(b, ok, tracks) }, func(n int) int {
			if n < beyond {
				return n
			}
			return 0
		})
		for _, b := range [][]byte{nil, {}, {0, 0}, {1, 0}, {1, 1}, {1, 0, 0, 0}} {
			if got := sensor.Routes(b, true, tracks); got != 0 {
				t.Errorf("Routes(%d, true, %d): %d", b, tracks, got)
			}
		}
		for n := range 256 {
			if got := sensor.Routes([]byte{byte(n)}, false, tracks); got != 0 {
				t.Errorf("Routes(%d, false, %d): %d", n, tracks, got)
			}
		}
	}
}

// P13.4: four bytes at the edges of each, and one byte more, and less.
func TestCounts(t *testing.T) {
	ends := []byte{0, 1, 2, 3, 4, 127, 128, 254, 255}
	for _, in := range ends {
		for _, out := range ends {
			for class := range 256 {
				for _, lie := range ends {
					b := roomy(in, out, byte(class), lie)
					var want api.Counts
					if class <= 2 && lie <= 3 {
						want = api.Counts{Fresh: true, In: int(in), Out: int(out), Class: class, Lie: int(lie)}
					}
					if got := sensor.Counts(b, true); got != want {
						t.Errorf("Counts(%d): %+v, not %+v", b, got, want)
					}
				}
			}
		}
	}
	for n := range 256 {
		for class := range 3 {
			want := api.Counts{Fresh: true, In: 7, Out: 9, Class: class, Lie: n}
			if n > 3 {
				want = api.Counts{}
			}
			if got := sensor.Counts([]byte{7, 9, byte(class), byte(n)}, true); got != want {
				t.Errorf("Counts of 7 9 %d %d: %+v", class, n, got)
			}
		}
	}
	for _, b := range [][]byte{nil, {}, {1}, {1, 2}, {1, 2, 0}, {0, 0, 0}, {1, 2, 0, 0, 0}, {0, 1, 2, 0, 0}, {1, 2, 0, 0, 1, 2, 0, 0}} {
		if got := sensor.Counts(b, true); got != (api.Counts{}) {
			t.Errorf("Counts(%d): %+v", b, got)
		}
	}
}

// P13.6, W2: a call asked again answers the same, whatever was asked between.
func TestAskedAgain(t *testing.T) {
	for n := range 256 {
		one, four := roomy(byte(n)), roomy(byte(n), 5, 2, 3)
		first, second := read(t, one, true, 8), read(t, four, true, 8)
		silent(t, nil, true)
		if read(t, one, true, 8) != first || read(t, four, true, 8) != second {
			t.Errorf("of %d and %d: not the same again", one, four)
		}
	}
}

// prints holds a Print against what is wanted of it, and that the inputs are left as they were, with the spare room of their tracks; what is answered is written over, spare room too, and printed anew.
func prints(t *testing.T, in api.Inputs, ch int, want ...byte) {
	t.Helper()
	was, tracks := in, slices.Clone(in.Tracks[:cap(in.Tracks)])
	for range 3 {
		got := sensor.Print(in, ch)
		if !bytes.Equal(got, want) {
			t.Errorf("Print(%+v, %d): %d, not %d", was, ch, got, want)
		}
		for i := range got[:cap(got)] {
			got[:cap(got)][i] ^= 255
		}
	}
	if !slices.Equal(in.Tracks[:cap(in.Tracks)], tracks) {
		t.Errorf("Print of channel %d: the tracks were %+v, behind it %+v", ch, tracks, in.Tracks[:cap(in.Tracks)])
	}
}

// others are inputs beside which one channel's answer is to be the same: nothing at all, and as much as may be.
func others() []api.Inputs {
	return []api.Inputs{
		{},
		{
			Barrier: api.Barrier{EntryDown: true, EntryUp: true, ExitDown: true, ExitUp: true},
			Sure:    true, Lamps: true, Obstacle: true, Mode: most, Mains: true, Battery: true, Routes: least,
			Tracks: make([]api.Counts, 10, 20),
		},
	}
}

// P13.5: Barrier: the sixteen that there are, of which those with both of one barrier are not printed; of those that two bytes tell, and more, the least.
func TestPrintBarrier(t *testing.T) {
	for _, in := range others() {
		for n := range 16 {
			in.Barrier = api.Barrier{EntryDown: n&1 > 0, EntryUp: n&2 > 0, ExitDown: n&4 > 0, ExitUp: n&8 > 0}
			switch n {
			case 3, 7, 11, 12, 13, 14, 15:
				prints(t, in, 0)
			default:
				prints(t, in, 0, byte(n))
			}
		}
	}
}

// P13.5: Lamps, Obstacle, Power: all that there are; of no lamps, of an obstacle and of no power the least byte.
func TestPrintLampsObstaclePower(t *testing.T) {
	for _, in := range others() {
		in.Lamps = false
		prints(t, in, 1, 0)
		in.Lamps = true
		prints(t, in, 1, 1)
		in.Obstacle = false
		prints(t, in, 2, 0)
		in.Obstacle = true
		prints(t, in, 2, 1)
		for n := range 4 {
			in.Mains, in.Battery = n&1 > 0, n&2 > 0
			prints(t, in, 4, byte(n))
		}
	}
}

// numbers are those around bytes, and around numbers whose lowest byte would be one that may be.
func numbers() []int {
	list := []int{least, least + 1, least + 2, least + 255, -1 << 32, 1 << 8, 1<<8 + 1, 1<<8 + 2, 1<<16 + 1, 1 << 31, 1<<32 - 1, 1 << 32, 1<<32 + 1, 1<<56 + 2, most - 255, most - 1, most}
	for n := -520; n <= 1030; n++ {
		list = append(list, n)
	}
	return list
}

// P13.5: Mode: the three that there are; Routes: those of 8 tracks; none of other numbers.
func TestPrintModeRoutes(t *testing.T) {
	for _, in := range others() {
		for _, n := range numbers() {
			in.Mode, in.Routes = n, n
			if n >= 0 && n <= 2 {
				prints(t, in, 3, byte(n))
			} else {
				prints(t, in, 3)
			}
			if n >= 0 && n <= 255 {
				prints(t, in, 5, byte(n))
			} else {
				prints(t, in, 5)
			}
		}
	}
}

// P13.5: Routes are printed as they would be with 8 tracks, however many Tracks there are.
func TestPrintRoutesOfFewTracks(t *testing.T) {
	for tracks := range 12 {
		for _, n := range []int{0, 1, 2, 128, 255} {
			prints(t, api.Inputs{Routes: n, Tracks: make([]api.Counts, tracks)}, 5, byte(n))
		}
	}
}

// fits is what is to be printed of a track.
func fits(c api.Counts) []byte {
	if !c.Fresh || c.In < 0 || c.In > 255 || c.Out < 0 || c.Out > 255 || c.Class < 0 || c.Class > 2 || c.Lie < 0 || c.Lie > 3 {
		return nil
	}
	return []byte{byte(c.In), byte(c.Out), byte(c.Class), byte(c.Lie)}
}

// P13.5: a track whose In, Out, Class and Lie have bytes, at their ends, and one that is not fresh.
func TestPrintTrack(t *testing.T) {
	for _, in := range others() {
		for _, c := range []struct {
			told api.Counts
			want []byte
		}{
			{api.Counts{Fresh: true}, []byte{0, 0, 0, 0}},
			{api.Counts{Fresh: true, In: 255, Out: 255, Class: 2, Lie: 3}, []byte{255, 255, 2, 3}},
			{api.Counts{Fresh: true, In: 1, Out: 2, Class: 0, Lie: 3}, []byte{1, 2, 0, 3}},
			{api.Counts{Fresh: true, In: 3, Out: 2, Class: 1, Lie: 0}, []byte{3, 2, 1, 0}},
			{api.Counts{Fresh: true, In: 128, Out: 0, Class: 2, Lie: 1}, []byte{128, 0, 2, 1}},
			{api.Counts{Fresh: true, In: 0, Out: 254, Class: 0, Lie: 2}, []byte{0, 254, 0, 2}},
			{api.Counts{}, nil},
			{api.Counts{In: 1, Out: 2, Class: 1, Lie: 3}, nil},
			{api.Counts{In: 255, Out: 255, Class: 2, Lie: 3}, nil},
			{api.Counts{Class: 3}, nil},
			{api.Counts{Lie: 4}, nil},
			{api.Counts{In: 256, Class: 256}, nil},
		} {
			in.Tracks = []api.Counts{c.told}
			prints(t, in, 8, c.want...)
		}
	}
}

// P13.5: a track of which one number, by itself, has no byte, or has one.
func TestPrintTrackOfOneNumber(t *testing.T) {
	for _, fresh := range []bool{true, false} {
		for _, n := range numbers() {
			for _, c := range []api.Counts{
				{Fresh: fresh, In: n, Out: 1, Class: 1, Lie: 1},
				{Fresh: fresh, In: 1, Out: n, Class: 1, Lie: 1},
				{Fresh: fresh, In: 1, Out: 1, Class: n, Lie: 1},
				{Fresh: fresh, In: 1, Out: 1, Class: 1, Lie: n},
				{Fresh: fresh, In: n}, {Fresh: fresh, Out: n}, {Fresh: fresh, Class: n}, {Fresh: fresh, Lie: n},
				{Fresh: fresh, In: n, Out: n, Class: n, Lie: n},
			} {
				prints(t, api.Inputs{Tracks: []api.Counts{c}}, 8, fits(c)...)
			}
		}
	}
}

// P13.5: each of no tracks, one, eight, nine and more by its place, and nothing just ahead of the first and just beyond the last; the others may be ones that are not printed.
func TestPrintEachTrack(t *testing.T) {
	for _, count := range []int{0, 1, 2, 7, 8, 9, 16, 249, 300} {
		tracks := make([]api.Counts, count, count+3)
		for i := range tracks {
			if i%3 < 2 {
				tracks[i] = api.Counts{Fresh: true, In: i % 256, Out: i / 256, Class: i % 3, Lie: i % 4}
			}
		}
		for i := range 3 {
			tracks[:cap(tracks)][count+i] = api.Counts{Fresh: true, In: 77}
		}
		in := api.Inputs{Tracks: tracks}
		for i := range tracks {
			prints(t, in, 8+i, fits(tracks[i])...)
		}
		for _, ch := range []int{6, 7, 8 + count, 9 + count, 10 + count, 11 + count} {
			prints(t, in, ch)
		}
	}
}

// P13.5: nothing of channels that there are not, as if of places ahead of the first track, or of ones that went round.
func TestPrintOtherChannels(t *testing.T) {
	full := api.Inputs{Lamps: true, Mains: true, Routes: 1, Tracks: make([]api.Counts, 9)}
	for i := range full.Tracks {
		full.Tracks[i] = api.Counts{Fresh: true, In: i, Out: i}
	}
	none := full
	none.Tracks = nil
	empty := full
	empty.Tracks = []api.Counts{}
	for _, ch := range []int{6, 7, 17, 18, 255, 256, 264, 1 << 31, 1 << 32, 1<<32 + 8, most - 8, most - 7, most - 1, most, -1, -2, -7, -8, -9, -248, -1 << 32, least, least + 1, least + 7, least + 8, least + 9, least + 16} {
		for _, in := range []api.Inputs{{}, full, none, empty} {
			prints(t, in, ch)
		}
	}
	for ch := 8; ch <= 16; ch++ {
		prints(t, full, ch, byte(ch-8), byte(ch-8), 0, 0)
		for _, in := range []api.Inputs{{}, none, empty} {
			prints(t, in, ch)
		}
	}
}

// reads tells whether a channel that says b is read as in tells, by the calls that read.
func reads(in api.Inputs, ch int, b []byte) bool {
	switch ch {
	case 0:
		return sensor.Barrier(b, true) == in.Barrier
	case 1:
		return sensor.Lamps(b, true) == in.Lamps
	case 2:
		return sensor.Obstacle(b, true) == in.Obstacle
	case 3:
		return sensor.Mode(b, true) == in.Mode
	case 4:
		mains, battery := sensor.Power(b, true)
		return mains == in.Mains && battery == in.Battery
	case 5:
		return sensor.Routes(b, true, 8) == in.Routes
	}
	return sensor.Counts(b, true) == in.Tracks[ch-8]
}

// found is what is to be printed, looked for among all bytes, the least first.
func found(in api.Inputs, ch int) []byte {
	if ch >= 8 {
		return fits(in.Tracks[ch-8])
	}
	w := in.Barrier
	if ch == 0 && (w.EntryDown && w.EntryUp || w.ExitDown && w.ExitUp) {
		return nil
	}
	for n := range 256 {
		if reads(in, ch, []byte{byte(n)}) {
			return []byte{byte(n)}
		}
	}
	return nil
}

// P13.5, P13.7: inputs by dice: what is printed is the least byte that is read as it was, and what is not printed nothing would be read as, but for nothing itself.
func TestPrintByDice(t *testing.T) {
	d := dice(13)
	for range 4000 {
		in := d.inputs()
		for ch := range 8 + len(in.Tracks) {
			if ch == 6 || ch == 7 {
				prints(t, in, ch)
				continue
			}
			want := found(in, ch)
			prints(t, in, ch, want...)
			if b := sensor.Print(in, ch); len(b) > 0 && !reads(in, ch, b) {
				t.Errorf("%+v, channel %d: printed %d, read as another thing", in, ch, b)
			}
		}
		prints(t, in, 8+len(in.Tracks))
	}
}

// P13.7: what is read of any byte is printed, and read again as it was.
func TestReadAndPrinted(t *testing.T) {
	again := func(in api.Inputs, ch int) {
		t.Helper()
		if b := sensor.Print(in, ch); len(b) == 0 || !reads(in, ch, b) {
			t.Errorf("%+v, channel %d: printed %d", in, ch, b)
		}
	}
	for n := range 256 {
		b := []byte{byte(n)}
		mains, battery := sensor.Power(b, true)
		in := api.Inputs{
			Barrier: sensor.Barrier(b, true), Lamps: sensor.Lamps(b, true), Obstacle: sensor.Obstacle(b, true),
			Mode: sensor.Mode(b, true), Mains: mains, Battery: battery, Routes: sensor.Routes(b, true, 8),
		}
		for ch := range 6 {
			again(in, ch)
		}
		for class := range 3 {
			for lie := range 4 {
				said := []byte{byte(n), byte(255 - n), byte(class), byte(lie)}
				in.Tracks = []api.Counts{sensor.Counts(said, true)}
				again(in, 8)
				prints(t, in, 8, said...)
			}
		}
	}
}

// P13.6: two answers share no memory, with each other's spare room neither; and the tracks of the inputs are not kept.
func TestNewMemory(t *testing.T) {
	in := api.Inputs{Lamps: true, Mode: api.ModeReset, Routes: 9, Tracks: []api.Counts{{Fresh: true, In: 3, Out: 2, Class: 1, Lie: 1}}}
	for _, ch := range []int{0, 1, 2, 3, 4, 5, 8} {
		one, two := sensor.Print(in, ch), sensor.Print(in, ch)
		was := bytes.Clone(two[:cap(two)])
		one = one[:cap(one)]
		for i := range one {
			one[i] ^= 255
		}
		if !bytes.Equal(two[:cap(two)], was) {
			t.Errorf("channel %d: two answers share memory", ch)
		}
	}
	b := sensor.Print(in, 8)
	in.Tracks[0] = api.Counts{}
	if !bytes.Equal(b, []byte{3, 2, 1, 1}) {
		t.Errorf("printed 3 2 1 1, behind a change of the inputs %d", b)
	}
	prints(t, in, 8)
}
