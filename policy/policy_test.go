package policy_test

import (
	"math/bits"
	"reflect"
	"slices"
	"testing"

	"crossbuck/api"
	"crossbuck/phase"
	"crossbuck/policy"
)

const (
	least = api.MinInt
	most  = api.MaxInt
)

// dice are numbers that look like no rule, the same at each run.
type dice uint64

func (d *dice) bits() uint64 {
	*d = *d*6364136223846793005 + 1442695040888963407
	return uint64(*d)
}

func (d *dice) below(n int) int {
	return int(d.bits()>>33) % n
}

// rarely is true once in n times.
func (d *dice) rarely(n int) bool {
	return d.below(n) == 0
}

// number is one of any width and sign; every other one is of the greatest.
func (d *dice) number() int {
	high, low := d.bits(), d.bits()
	return int(high<<32^low>>16) >> (d.below(2) * d.below(64))
}

// near is one that is likely to matter, or any.
func (d *dice) near() int {
	if d.rarely(6) {
		return d.number()
	}
	return d.below(12) - 2
}

// inputs are any; often is how often one of what matters is well.
func (d *dice) inputs(often int) api.Inputs {
	in := api.Inputs{
		Barrier:  api.Barrier{EntryDown: d.rarely(2), EntryUp: d.rarely(2), ExitDown: d.rarely(2), ExitUp: d.rarely(2)},
		Sure:     d.rarely(2),
		Lamps:    !d.rarely(often),
		Obstacle: d.rarely(2),
		Mains:    !d.rarely(often),
		Battery:  d.rarely(2),
		Routes:   d.number(),
		Tracks:   make([]api.Counts, d.below(4)),
	}
	if d.rarely(often) {
		in.Mode = d.near()
	}
	return in
}

// tracks are any, up to n; often is how often one of them has no Fault.
func (d *dice) tracks(n, often int) []api.Track {
	tracks := make([]api.Track, d.below(n+1))
	for i := range tracks {
		tracks[i] = api.Track{
			Axle:  api.Axle{Had: d.rarely(2), In: d.near(), Out: d.near(), Wrong: d.rarely(2)},
			Pair:  api.Pair{Lie: d.near(), Pos: d.near(), Jump: d.rarely(2)},
			Clear: d.rarely(2),
			Since: d.near(),
			Fault: d.rarely(n * often),
			Call:  d.rarely(2),
		}
	}
	return tracks
}

// numbers are those at which something changes, or nearly, and some between.
var numbers = []int{least, least + 1, least / 2, -1 << 32, -257, -256, -255, -128, -9, -8, -7, -3, -2, -1, 0, 1, 2, 3, 4, 5, 6, 7, 8, 9, 15, 16, 127, 128, 129, 254, 255, 256, 257, 511, 1 << 31, 1 << 32, 1<<32 + 5, 1 << 61, 1<<62 - 1, 1 << 62, most - 1, most}

// bools are both.
var bools = []bool{false, true}

// phases are the phases that there are, and some that are none.
var phases = []int{0, 1, 2, 3, 4, 5, 6, 7, 8, 9, 13, 21, 255, 256, 261, 1<<32 + 5, most - 1, most, -1, -2, -3, -5, -6, -7, -8, -251, least, least + 1, least + 5}

// down is the road over which signals may show clear.
var down = api.Road{Phase: api.PhaseDown, Since: 4}

// asked are inputs of which nothing is wrong, with routes.
func asked(routes int) api.Inputs {
	return api.Inputs{Mains: true, Lamps: true, Routes: routes}
}

// sound are n tracks without a Fault; there is room behind them, of tracks that no call is to look at.
func sound(n int) []api.Track {
	room := make([]api.Track, n+2)
	room[n], room[n+1] = api.Track{Fault: true}, api.Track{Fault: true, Call: true}
	return room[:n]
}

// below are those of the routes' bits that stand below the nth place, told one by one, and 62 at most.
func below(routes, n int) int {
	some := 0
	for place := 0; place < n && place < 62 && routes > 0; place++ {
		if bit := 1 << place; routes&bit == bit {
			some += bit
		}
	}
	return some
}

// shows holds a Signals against what it is to answer, twice, and that what was handed in is as it was.
func shows(t *testing.T, what string, in api.Inputs, tracks []api.Track, r api.Road, proved bool, want int) {
	t.Helper()
	room, counts := slices.Clone(tracks[:cap(tracks)]), slices.Clone(in.Tracks[:cap(in.Tracks)])
	for range 2 {
		if got := policy.Signals(in, tracks, r, proved); got != want {
			t.Fatalf("%s: Signals(%+v, %d tracks, %+v, %t): %b, not %b", what, in, len(tracks), r, proved, got, want)
		}
	}
	if !slices.Equal(tracks[:cap(tracks)], room) || !slices.Equal(in.Tracks[:cap(in.Tracks)], counts) {
		t.Fatalf("%s: Signals changed what it was handed", what)
	}
}

// P23.1: each phase alone; no Since makes it another.
func TestSignalsByPhase(t *testing.T) {
	for _, p := range phases {
		for _, since := range numbers {
			want := 0
			if p == 5 {
				want = 5
			}
			r := api.Road{Phase: p, Since: since}
			shows(t, "phase", asked(5), sound(3), r, true, want)
			shows(t, "phase, not proved", asked(5), sound(3), r, false, 0)
		}
	}
}

// P23.1: each mode alone.
func TestSignalsByMode(t *testing.T) {
	for _, mode := range slices.Concat(numbers, phases) {
		in, want := asked(6), 0
		in.Mode = mode
		if mode == 0 {
			want = 6
		}
		shows(t, "mode", in, sound(3), down, true, want)
	}
}

// P23.1: what is not Good alone: Mains, Lamps, and a Fault of each place of up to nine tracks, and of some of more.
func TestSignalsNotGood(t *testing.T) {
	for n := range 70 {
		routes := below(most, n)
		shows(t, "good", asked(most), sound(n), down, true, routes)
		in := asked(most)
		in.Mains = false
		shows(t, "no Mains", in, sound(n), down, true, 0)
		in.Lamps = false
		shows(t, "neither", in, sound(n), down, true, 0)
		in.Mains = true
		shows(t, "no Lamps", in, sound(n), down, true, 0)
		for at := range n {
			tracks := sound(n)
			tracks[at].Fault = true
			shows(t, "a Fault", asked(most), tracks, down, true, 0)
			shows(t, "a Fault, another's route", asked(most&^(1<<at)), tracks, down, true, 0)
			tracks[0].Fault, tracks[n-1].Fault = true, true
			shows(t, "Faults", asked(most), tracks, down, true, 0)
		}
	}
}

// P23.1: not proved alone.
func TestSignalsNotProved(t *testing.T) {
	for n := range 10 {
		for routes := range 300 {
			shows(t, "not proved", asked(routes), sound(n), down, false, 0)
		}
	}
}

// P23.1: all that matters beside the routes told both ways.
func TestSignalsAllTogether(t *testing.T) {
	for k := range 64 {
		told := func(bit int) bool { return k>>bit&1 > 0 }
		r, in, tracks, want := down, asked(7), sound(3), 7
		if told(0) {
			r.Phase = api.PhaseExit
		}
		if told(1) {
			in.Mode = api.ModeReset
		}
		if told(2) {
			in.Mains = false
		}
		if told(3) {
			in.Lamps = false
		}
		if told(4) {
			tracks[2].Fault = true
		}
		if k > 0 {
			want = 0
		}
		shows(t, "together", in, tracks, r, !told(5), want)
	}
}

// P23.1, W5: no tracks have no signals.
func TestSignalsOfNoTracks(t *testing.T) {
	for _, routes := range numbers {
		shows(t, "nil", asked(routes), nil, down, true, 0)
		shows(t, "empty", asked(routes), []api.Track{}, down, true, 0)
		shows(t, "room alone", asked(routes), sound(0), down, true, 0)
	}
}

// P23.1: routes told one by one.
func TestSignals(t *testing.T) {
	for _, x := range []struct{ tracks, routes, want int }{
		{1, 0, 0}, {1, 1, 1}, {1, 2, 0}, {1, 3, 1}, {1, 254, 0}, {1, 255, 1}, {1, most, 1}, {1, most - 1, 0},
		{2, 0, 0}, {2, 1, 1}, {2, 2, 2}, {2, 3, 3}, {2, 4, 0}, {2, 5, 1}, {2, 6, 2}, {2, 7, 3}, {2, most, 3},
		{3, 8, 0}, {3, 13, 5}, {3, 5, 5}, {7, 128, 0}, {7, 255, 127}, {7, 64, 64},
		{8, 1, 1}, {8, 128, 128}, {8, 129, 129}, {8, 255, 255}, {8, 170, 170}, {8, 256, 0}, {8, 257, 1}, {8, 511, 255}, {8, 384, 128}, {8, 1 << 32, 0}, {8, most, 255}, {8, most - 255, 0},
		{9, 256, 256}, {9, 511, 511}, {9, 512, 0}, {9, most, 511}, {32, 1 << 31, 1 << 31}, {32, 1 << 32, 0}, {33, 1 << 32, 1 << 32}, {31, 1 << 31, 0},
		{61, 1 << 60, 1 << 60}, {61, 1 << 61, 0}, {61, 1 << 62, 0}, {61, most, 1<<61 - 1}, {61, 3 << 60, 1 << 60},
		{62, 1 << 60, 1 << 60}, {62, 1 << 61, 1 << 61}, {62, 1 << 62, 0}, {62, most, 1<<62 - 1}, {62, 3 << 61, 1 << 61}, {62, 1<<62 - 1, 1<<62 - 1},
		{63, 1 << 61, 1 << 61}, {63, 1 << 62, 0}, {63, most, 1<<62 - 1}, {63, 1<<62 + 1, 1}, {63, 1, 1},
		{64, 1 << 61, 1 << 61}, {64, 1 << 62, 0}, {64, most, 1<<62 - 1}, {64, 1<<62 + 1, 1}, {64, 1, 1},
		{65, 1 << 61, 1 << 61}, {65, 1 << 62, 0}, {65, most, 1<<62 - 1}, {65, 1, 1}, {66, most, 1<<62 - 1}, {127, most, 1<<62 - 1}, {128, most, 1<<62 - 1}, {129, 3, 3}, {256, 255, 255}, {257, most, 1<<62 - 1}, {1000, 1<<62 + 9, 9},
	} {
		shows(t, "told", asked(x.routes), sound(x.tracks), down, true, x.want)
	}
}

// P23.1: no signal of routes below 0, however many tracks there are.
func TestSignalsRoutesBelow0(t *testing.T) {
	for _, n := range []int{0, 1, 2, 7, 8, 9, 31, 32, 33, 61, 62, 63, 64, 65, 66, 128, 300} {
		for place := range 64 {
			shows(t, "below 0", asked(-1<<place), sound(n), down, true, 0)
			shows(t, "below 0, and the first bit", asked(-1<<place|1), sound(n), down, true, 0)
			shows(t, "the least and a bit", asked(least|1<<place), sound(n), down, true, 0)
		}
		for _, routes := range []int{-1, -2, -3, -128, -255, -256, -257, least, least + 1, least + 255} {
			shows(t, "below 0", asked(routes), sound(n), down, true, 0)
		}
	}
}

// P23.1: one bit at each place, all below the last track's, those beyond it, both, for each number of tracks.
func TestSignalsBits(t *testing.T) {
	for n := range 70 {
		for place := range 63 {
			bit := 1 << place
			for _, routes := range []int{bit, bit - 1, most - bit, most - bit + 1, bit | 1, bit | 1<<62, bit | bit>>1} {
				shows(t, "bits", asked(routes), sound(n), down, true, below(routes, n))
			}
		}
		for _, routes := range numbers {
			shows(t, "numbers", asked(routes), sound(n), down, true, below(routes, n))
		}
	}
	for n := range 11 {
		for routes := range 1200 {
			shows(t, "each", asked(routes), sound(n), down, true, below(routes, n))
		}
	}
}

// otherwise calls tell once behind each change of one of the fields of what x points to, those of fields of it among them, but of those that are told to be kept; each is as it was behind it. It answers how many fields it changed.
func otherwise(x any, kept []string, tell func(name string)) int {
	return vary(reflect.ValueOf(x).Elem(), "", kept, tell)
}

func vary(v reflect.Value, name string, kept []string, tell func(name string)) int {
	if slices.Contains(kept, name) {
		return 0
	}
	was, changed := reflect.New(v.Type()).Elem(), 1
	was.Set(v)
	switch v.Kind() {
	case reflect.Struct:
		changed = 0
		for k := range v.NumField() {
			changed += vary(v.Field(k), v.Type().Field(k).Name, kept, tell)
		}
	case reflect.Bool:
		v.SetBool(!v.Bool())
		tell(name)
	case reflect.Int:
		for _, n := range numbers {
			v.SetInt(int64(n))
			tell(name)
		}
	case reflect.Slice:
		for n := range 10 {
			v.Set(reflect.MakeSlice(v.Type(), n, n+1))
			tell(name)
		}
	}
	v.Set(was)
	return changed
}

// P23.1: no other field of the inputs, of a track or of the road matters, each told otherwise, one by one, over signals that may show clear, and over those that may not.
func TestSignalsOtherFields(t *testing.T) {
	for _, x := range []struct {
		what   string
		phase  int
		mode   int
		mains  bool
		fault  bool
		proved bool
		want   int
	}{
		{"clear", api.PhaseDown, 0, true, false, true, 21},
		{"another phase", api.PhaseRaise, 0, true, false, true, 0},
		{"another mode", api.PhaseDown, 2, true, false, true, 0},
		{"no Mains", api.PhaseDown, 0, false, false, true, 0},
		{"a Fault", api.PhaseDown, 0, true, true, true, 0},
		{"not proved", api.PhaseDown, 0, true, false, false, 0},
	} {
		in, tracks, r := asked(21), sound(5), api.Road{Phase: x.phase}
		in.Mode, in.Mains, tracks[3].Fault = x.mode, x.mains, x.fault
		tell := func(name string) {
			shows(t, x.what+", "+name, in, tracks, r, x.proved, x.want)
		}
		if n := otherwise(&in, []string{"Mode", "Mains", "Lamps", "Routes"}, tell); n != 8 {
			t.Errorf("%d fields of the inputs", n)
		}
		for i := range tracks {
			if n := otherwise(&tracks[i], []string{"Fault"}, tell); n != 10 {
				t.Errorf("%d fields of a track", n)
			}
		}
		if n := otherwise(&r, []string{"Phase"}, tell); n != 1 {
			t.Errorf("%d fields of the road", n)
		}
	}
}

// P23.1, W6: neither do counters that are wrong, and treadles that jumped, of tracks that have no Fault, nor all else together.
func TestSignalsOfTracksAsTheyAre(t *testing.T) {
	worst := api.Track{Axle: api.Axle{In: 3, Out: 9, Wrong: true}, Pair: api.Pair{Lie: 1, Pos: 5, Jump: true}, Since: api.MaxSince, Call: true}
	best := api.Track{Axle: api.Axle{Had: true}, Clear: true}
	for _, x := range []api.Track{worst, best, {}} {
		for n := range 10 {
			shows(t, "alike", asked(most), slices.Repeat([]api.Track{x}, n), down, true, below(most, n))
		}
	}
	in := asked(3)
	in.Barrier = api.Barrier{EntryUp: true, ExitUp: true}
	in.Obstacle = true
	in.Tracks = append(make([]api.Counts, 0, 5), api.Counts{Fresh: true, In: 7})
	shows(t, "as they are", in, []api.Track{worst, best, worst}, down, true, 3)
}

// one is a zero track, but with what is wrong with it.
func one(wrong, jump bool) api.Track {
	return api.Track{Axle: api.Axle{Wrong: wrong}, Pair: api.Pair{Jump: jump}}
}

// place tells whether a number has the bit of a place, asked of a number without a sign.
func place(n, at int) bool {
	return uint64(n)&(1<<at) > 0
}

// again are the tracks of one that begins again.
func again(wrong, jump, tracks int) []api.Track {
	var row []api.Track
	for i := 0; i < tracks && i < 8; i++ {
		row = append(row, one(place(wrong, i), place(jump, i)))
	}
	return row
}

// begins holds a Restart against what it is to answer, twice.
func begins(t *testing.T, rec api.Record, had bool, tracks int, road api.Road, row []api.Track) {
	t.Helper()
	for range 2 {
		r, got := policy.Restart(rec, had, tracks)
		if r != road || !slices.Equal(got, row) {
			t.Fatalf("Restart(%+v, %t, %d): %+v, %+v, not %+v, %+v", rec, had, tracks, r, got, road, row)
		}
	}
}

// first is the road in the first tick of a phase.
func first(phase int) api.Road {
	return api.Road{Phase: phase, Since: 1}
}

// P23.2: the document's example.
func TestExample(t *testing.T) {
	begins(t, api.Record{Phase: api.PhaseOpen}, true, 0, first(api.PhaseRaise), nil)
	begins(t, api.Record{}, true, 2, first(api.PhaseRaise), make([]api.Track, 2))
}

// roads are those of one that begins again behind a phase, told one by one; of all others it is PhaseEntry's.
var roads = map[int]int{0: 6, 1: 1, 2: 2, 3: 3, 4: 4, 5: 5, 6: 6}

// enters is the road of one that begins again behind a phase.
func enters(last int) api.Road {
	if p, is := roads[last]; is {
		return first(p)
	}
	return first(3)
}

// P23.2: the road of each phase, and of what is none, had and not; it does not hang on what was wrong, nor on how many tracks there are.
func TestRestartRoad(t *testing.T) {
	if len(roads) != 7 {
		t.Fatal("not all phases")
	}
	for _, p := range slices.Concat(phases, numbers) {
		for _, n := range []int{least, -1, 0, 1, 3, 8, 9} {
			for _, x := range []struct{ wrong, jump int }{{0, 0}, {5, 3}, {255, 255}, {-1, 0}, {0, most}, {3, least}} {
				rec := api.Record{Phase: p, Wrong: x.wrong, Jump: x.jump}
				begins(t, rec, true, n, enters(p), again(x.wrong, x.jump, n))
				begins(t, rec, false, n, first(3), again(0, 0, n))
			}
		}
	}
}

// P23.2: the road is what phase's Enter tells.
func TestRestartEnters(t *testing.T) {
	for p := range 20 {
		want := phase.Enter(p - 5)
		switch {
		case p-5 < api.PhaseOpen || p-5 > api.PhaseRaise:
			want = phase.Enter(api.PhaseEntry)
		case p-5 == api.PhaseOpen:
			want = phase.Enter(api.PhaseRaise)
		}
		begins(t, api.Record{Phase: p - 5}, true, 1, want, again(0, 0, 1))
	}
}

// P23.2: how many tracks there are, had and not.
func TestRestartTracks(t *testing.T) {
	for _, x := range []struct{ tracks, want int }{
		{least, 0}, {least + 1, 0}, {-1 << 32, 0}, {-9, 0}, {-8, 0}, {-2, 0}, {-1, 0}, {0, 0}, {1, 1}, {2, 2}, {3, 3}, {4, 4}, {5, 5}, {6, 6}, {7, 7}, {8, 8}, {9, 8}, {10, 8}, {16, 8}, {64, 8}, {255, 8}, {256, 8}, {1 << 31, 8}, {1 << 32, 8}, {1<<32 + 1, 8}, {most - 1, 8}, {most, 8},
	} {
		begins(t, api.Record{Phase: 5}, true, x.tracks, first(5), make([]api.Track, x.want))
		begins(t, api.Record{Phase: 5}, false, x.tracks, first(3), make([]api.Track, x.want))
		all := slices.Repeat([]api.Track{one(true, true)}, x.want)
		begins(t, api.Record{Phase: 4, Wrong: 255, Jump: 255}, true, x.tracks, first(4), all)
		begins(t, api.Record{Phase: 4, Wrong: -1, Jump: most}, true, x.tracks, first(4), all)
		begins(t, api.Record{Phase: 4, Wrong: 255, Jump: 255}, false, x.tracks, first(3), make([]api.Track, x.want))
	}
}

// P23.2: what was wrong of three tracks, told one by one.
func TestRestartWrong(t *testing.T) {
	no, axles, treadles, both := one(false, false), one(true, false), one(false, true), one(true, true)
	for _, x := range []struct {
		wrong, jump int
		want        []api.Track
	}{
		{0, 0, []api.Track{no, no, no}},
		{1, 0, []api.Track{axles, no, no}},
		{2, 0, []api.Track{no, axles, no}},
		{4, 0, []api.Track{no, no, axles}},
		{0, 1, []api.Track{treadles, no, no}},
		{0, 2, []api.Track{no, treadles, no}},
		{0, 4, []api.Track{no, no, treadles}},
		{7, 0, []api.Track{axles, axles, axles}},
		{0, 7, []api.Track{treadles, treadles, treadles}},
		{1, 1, []api.Track{both, no, no}},
		{1, 4, []api.Track{axles, no, treadles}},
		{6, 3, []api.Track{treadles, both, axles}},
		{8, 8, []api.Track{no, no, no}},
		{-1, 0, []api.Track{axles, axles, axles}},
		{0, -1, []api.Track{treadles, treadles, treadles}},
		{-2, -4, []api.Track{no, axles, both}},
		{-8, 0, []api.Track{no, no, no}},
		{least, 0, []api.Track{no, no, no}},
		{0, least, []api.Track{no, no, no}},
		{least + 2, least + 1, []api.Track{treadles, axles, no}},
		{most, 0, []api.Track{axles, axles, axles}},
		{0, most, []api.Track{treadles, treadles, treadles}},
		{most - 7, most - 2, []api.Track{treadles, no, treadles}},
	} {
		begins(t, api.Record{Phase: 6, Wrong: x.wrong, Jump: x.jump}, true, 3, first(6), x.want)
		begins(t, api.Record{Phase: 6, Wrong: x.wrong, Jump: x.jump}, false, 3, first(3), []api.Track{no, no, no})
	}
}

// P23.2: each bit alone, all but it, those beyond the eighth, and each number of eight bits, one told without the other, and with it.
func TestRestartBits(t *testing.T) {
	for n := range 10 {
		for at := range 64 {
			for _, told := range []int{1 << at, -1 ^ 1<<at, -1 << at, 1<<at - 1} {
				for _, other := range []int{0, 165, -1, told} {
					begins(t, api.Record{Phase: 2, Wrong: told, Jump: other}, true, n, first(2), again(told, other, n))
					begins(t, api.Record{Phase: 2, Wrong: other, Jump: told}, true, n, first(2), again(other, told, n))
				}
			}
		}
	}
	for told := range 512 {
		for _, other := range []int{0, 255, 511 - told, told} {
			begins(t, api.Record{Phase: 1, Wrong: told, Jump: other}, true, 8, first(1), again(told, other, 8))
			begins(t, api.Record{Phase: 1, Wrong: other, Jump: told}, true, 8, first(1), again(other, told, 8))
		}
	}
	for _, wrong := range numbers {
		for _, jump := range numbers {
			begins(t, api.Record{Phase: 5, Wrong: wrong, Jump: jump}, true, 8, first(5), again(wrong, jump, 8))
		}
	}
}

// P23.2: Restart by dice.
func TestRestartByDice(t *testing.T) {
	d := dice(1)
	for range 100000 {
		rec, had, n := api.Record{Phase: d.near(), Wrong: d.number(), Jump: d.number()}, !d.rarely(4), d.near()
		if had {
			begins(t, rec, true, n, enters(rec.Phase), again(rec.Wrong, rec.Jump, n))
			continue
		}
		begins(t, rec, false, n, first(3), again(0, 0, n))
	}
}

// P23.3: all signals at stop, and the lights of a road that failed.
func TestStop(t *testing.T) {
	for range 3 {
		got := policy.Stop()
		want := api.Outputs{Lights: api.Lights{Red: true, Bell: true, EntryDown: true, ExitDown: true}, Dead: true}
		if got != want {
			t.Errorf("%+v", got)
		}
		if got.Lights != phase.Lights(api.Road{Phase: api.PhaseFailed}) || got.Signals != 0 || got.Failed || !got.Dead {
			t.Errorf("%+v", got)
		}
		got.Signals, got.Failed, got.Lights = 255, true, api.Lights{}
	}
}

// P23.4, W6: two answers share no memory, spare room too: what is written into one is not seen in the other.
func TestAnswersShareNothing(t *testing.T) {
	for n := range 10 {
		for _, had := range bools {
			rec := api.Record{Phase: 5, Wrong: 170, Jump: 204}
			_, a := policy.Restart(rec, had, n)
			_, b := policy.Restart(rec, had, n)
			was := slices.Clone(b)
			room := a[:cap(a)]
			for i := range room {
				room[i] = api.Track{Fault: true, Since: 99}
			}
			a = append(a, api.Track{Call: true}, api.Track{Call: true})
			if !slices.Equal(b, was) {
				t.Errorf("%d tracks: %+v, %+v", n, a, b)
			}
			spare := slices.Clone(b[:cap(b)])
			_, c := policy.Restart(rec, had, n)
			c = append(c[:0], slices.Repeat([]api.Track{{Clear: true}}, cap(c))...)
			if !slices.Equal(b[:cap(b)], spare) {
				t.Errorf("%d tracks: %+v, %+v", n, b, c)
			}
			row := again(rec.Wrong, rec.Jump, n)
			if !had {
				row = again(0, 0, n)
			}
			if !slices.Equal(b, row) {
				t.Errorf("%d tracks: %+v", n, b)
			}
		}
	}
}

// P23.4, W6: what is changed behind a call of Signals is asked anew in the next, and the spare room never.
func TestNothingKept(t *testing.T) {
	tracks, in := sound(4), asked(15)
	in.Tracks = make([]api.Counts, 2, 4)
	shows(t, "ahead", in, tracks, down, true, 15)
	tracks[2].Fault = true
	shows(t, "a Fault now", in, tracks, down, true, 0)
	shows(t, "ahead of it", in, tracks[:2], down, true, 3)
	shows(t, "behind it", in, tracks[3:], down, true, 1)
	tracks[2].Fault = false
	shows(t, "none any more", in, tracks, down, true, 15)
	shows(t, "the spare room", in, tracks[:5], down, true, 0)
}

// model is what Signals is to answer, asked one thing behind the other.
func model(in api.Inputs, tracks []api.Track, r api.Road, proved bool) int {
	for _, x := range tracks {
		if x.Fault {
			return 0
		}
	}
	if !proved || r.Phase != 5 || in.Mode != 0 || !in.Mains || !in.Lamps {
		return 0
	}
	return below(in.Routes, len(tracks))
}

// P23.1: Signals by dice, clear and not, often; P23.5: a signal shows clear only in PhaseDown, proved, in ModeAuto, with Mains, Lamps and no Fault, and for a bit that Routes has.
func TestSignalsByDice(t *testing.T) {
	d := dice(2)
	clear, stop := 0, 0
	for range 200000 {
		often := 1 + d.below(60)
		in, tracks, r, proved := d.inputs(often), d.tracks(70, often), api.Road{Phase: d.near(), Since: d.near()}, !d.rarely(often)
		if !d.rarely(often) {
			r.Phase = api.PhaseDown
		}
		want := model(in, tracks, r, proved)
		shows(t, "dice", in, tracks, r, proved, want)
		if want == 0 {
			stop++
			continue
		}
		clear++
		faulty := func(x api.Track) bool { return x.Fault }
		got := policy.Signals(in, tracks, r, proved)
		if r.Phase != api.PhaseDown || !proved || in.Mode != api.ModeAuto || !in.Mains || !in.Lamps || slices.ContainsFunc(tracks, faulty) || got&^in.Routes != 0 || bits.Len(uint(got)) > len(tracks) || in.Routes < 0 {
			t.Fatalf("%+v, %+v, %+v, %t: %b", in, tracks, r, proved, got)
		}
	}
	if clear < 10000 || stop < 10000 {
		t.Errorf("%d clear, %d at stop", clear, stop)
	}
}

// P23.5: who begins again trusts no track, and neither opens a road, nor takes it for failed.
func TestRestartTrustsNothing(t *testing.T) {
	d := dice(3)
	for range 100000 {
		rec := api.Record{Phase: d.near(), Wrong: d.number(), Jump: d.number()}
		r, tracks := policy.Restart(rec, d.rarely(2), d.near())
		if r.Phase <= api.PhaseOpen || r.Phase >= api.PhaseFailed || r.Since != 1 || len(tracks) > api.MaxTracks {
			t.Fatalf("%+v: %+v, %d tracks", rec, r, len(tracks))
		}
		for _, x := range tracks {
			if x != one(x.Axle.Wrong, x.Pair.Jump) || x.Clear || x.Call || x.Axle.Had {
				t.Fatalf("%+v: %+v", rec, x)
			}
		}
	}
}

// P23.5: no signal shows clear behind a Restart ahead of being proved down.
func TestNoSignalBehindRestart(t *testing.T) {
	for _, p := range phases {
		for _, had := range bools {
			r, tracks := policy.Restart(api.Record{Phase: p}, had, 8)
			shows(t, "behind a Restart", asked(255), tracks, r, false, 0)
			want := 0
			if had && p == api.PhaseDown {
				want = 255
			}
			shows(t, "and proved", asked(255), tracks, r, true, want)
		}
	}
}
