package demand_test

import (
	"reflect"
	"slices"
	"testing"

	"crossbuck/api"
	"crossbuck/demand"
)

const (
	least = api.MinInt
	most  = api.MaxInt
)

// dice are numbers that look like no rule, the same at each run.
type dice uint64

func (d *dice) below(n int) int {
	*d = *d*6364136223846793005 + 1442695040888963407
	return int(*d>>33) % n
}

// rarely is true once in n times.
func (d *dice) rarely(n int) bool {
	return d.below(n) == 0
}

var (
	none   = api.Demand{}
	closed = api.Demand{Close: true}
	urgent = api.Demand{Close: true, Urgent: true}
)

// well are inputs of which nothing is wrong, and nothing is asked for.
func well() api.Inputs {
	return api.Inputs{Lamps: true, Mains: true}
}

// A change makes other inputs, or another track, of what it is handed.
type (
	inputChange struct {
		name   string
		change func(*api.Inputs)
	}
	trackChange struct {
		name   string
		change func(*api.Track)
	}
)

// bad are the changes of well inputs behind which not all is Good.
var bad = []inputChange{
	{"Mode 1", func(in *api.Inputs) { in.Mode = api.ModeClose }},
	{"no Mains", func(in *api.Inputs) { in.Mains = false }},
	{"no Lamps", func(in *api.Inputs) { in.Lamps = false }},
}

// idle are the changes of inputs that neither call asks for.
var idle = []inputChange{
	{"nothing", func(*api.Inputs) {}},
	{"EntryDown", func(in *api.Inputs) { in.Barrier.EntryDown = true }},
	{"EntryUp", func(in *api.Inputs) { in.Barrier.EntryUp = true }},
	{"ExitDown", func(in *api.Inputs) { in.Barrier.ExitDown = true }},
	{"ExitUp", func(in *api.Inputs) { in.Barrier.ExitUp = true }},
	{"Sure", func(in *api.Inputs) { in.Sure = true }},
	{"Obstacle", func(in *api.Inputs) { in.Obstacle = true }},
	{"Battery", func(in *api.Inputs) { in.Battery = true }},
	{"Mode 2", func(in *api.Inputs) { in.Mode = api.ModeReset }},
	{"Mode 3", func(in *api.Inputs) { in.Mode = 3 }},
	{"Mode below 0", func(in *api.Inputs) { in.Mode = -1 }},
	{"Mode 257", func(in *api.Inputs) { in.Mode = 257 }},
	{"the least Mode", func(in *api.Inputs) { in.Mode = least }},
	{"the greatest Mode", func(in *api.Inputs) { in.Mode = most }},
	{"Tracks, empty", func(in *api.Inputs) { in.Tracks = []api.Counts{} }},
	{"Tracks, zero ones", func(in *api.Inputs) { in.Tracks = make([]api.Counts, 8) }},
	{"Tracks that are fresh", func(in *api.Inputs) {
		in.Tracks = []api.Counts{{Fresh: true, In: 5, Out: 3, Class: 2, Lie: 3}, {Fresh: true, In: 255, Class: -1}}
	}},
	{"all of them", func(in *api.Inputs) {
		in.Barrier = api.Barrier{EntryDown: true, EntryUp: true, ExitDown: true, ExitUp: true}
		in.Sure, in.Obstacle, in.Battery = true, true, true
		in.Mode = api.ModeReset
		in.Tracks = []api.Counts{{Fresh: true, In: 1}}
	}},
}

// still are the changes of a track that neither call asks for.
var still = []trackChange{
	{"nothing", func(*api.Track) {}},
	{"Had", func(t *api.Track) { t.Axle.Had = true }},
	{"In", func(t *api.Track) { t.Axle.In = 7 }},
	{"the least In", func(t *api.Track) { t.Axle.In = least }},
	{"Out", func(t *api.Track) { t.Axle.Out = 7 }},
	{"the greatest Out", func(t *api.Track) { t.Axle.Out = most }},
	{"Wrong", func(t *api.Track) { t.Axle.Wrong = true }},
	{"Lie", func(t *api.Track) { t.Pair.Lie = 3 }},
	{"Pos", func(t *api.Track) { t.Pair.Pos = -4 }},
	{"Jump", func(t *api.Track) { t.Pair.Jump = true }},
	{"Since 1", func(t *api.Track) { t.Since = 1 }},
	{"Since below 0", func(t *api.Track) { t.Since = -1 }},
	{"the longest Since", func(t *api.Track) { t.Since = api.MaxSince }},
	{"the greatest Since", func(t *api.Track) { t.Since = most }},
	{"all of them", func(t *api.Track) {
		t.Axle = api.Axle{Had: true, In: 9, Out: 2, Wrong: true}
		t.Pair = api.Pair{Lie: 2, Pos: 11, Jump: true}
		t.Since = api.MaxSince
	}},
}

var (
	clears  = trackChange{"Clear", func(t *api.Track) { t.Clear = true }}
	blocked = trackChange{"not Clear", func(t *api.Track) { t.Clear = false }}
	calls   = trackChange{"Call", func(t *api.Track) { t.Call = true }}
	faulty  = trackChange{"Fault", func(t *api.Track) { t.Fault = true }}
)

// allClear are n tracks that are clear; there is room behind them, of tracks that no call is to look at.
func allClear(n int) []api.Track {
	tracks := make([]api.Track, n, n+2)
	for i := range tracks {
		clears.change(&tracks[i])
	}
	for i := range tracks[n:cap(tracks)] {
		tracks[:cap(tracks)][n+i] = api.Track{Fault: true, Call: true, Since: 7}
	}
	return tracks
}

// with is n clear tracks, of which those of the bits are changed, by each of the changes.
func with(n, bits int, changes ...trackChange) []api.Track {
	tracks := allClear(n)
	for i := range tracks {
		for _, c := range changes {
			if bits>>i&1 > 0 {
				c.change(&tracks[i])
			}
		}
	}
	return tracks
}

// goods holds a Good against what it is to answer, twice, and that what was handed in is as it was.
func goods(t *testing.T, what string, in api.Inputs, tracks []api.Track, want bool) {
	t.Helper()
	room := slices.Clone(tracks[:cap(tracks)])
	counts := slices.Clone(in.Tracks)
	for range 2 {
		if got := demand.Good(in, tracks); got != want {
			t.Errorf("%s: Good(%+v, %+v): %t", what, in, tracks, got)
		}
	}
	if !slices.Equal(tracks[:cap(tracks)], room) || !slices.Equal(in.Tracks, counts) {
		t.Errorf("%s: Good changed what it was handed", what)
	}
}

// asks holds an Of likewise.
func asks(t *testing.T, what string, in api.Inputs, tracks []api.Track, locked, open bool, want api.Demand) {
	t.Helper()
	room := slices.Clone(tracks[:cap(tracks)])
	counts := slices.Clone(in.Tracks)
	for range 2 {
		if got := demand.Of(in, tracks, locked, open); got != want {
			t.Errorf("%s: Of(%+v, %+v, %t, %t): %+v", what, in, tracks, locked, open, got)
		}
	}
	if !slices.Equal(tracks[:cap(tracks)], room) || !slices.Equal(in.Tracks, counts) {
		t.Errorf("%s: Of changed what it was handed", what)
	}
}

// fourWays holds an Of of which it does not matter what is locked and open.
func fourWays(t *testing.T, what string, in api.Inputs, tracks []api.Track, want api.Demand) {
	t.Helper()
	for k := range 4 {
		asks(t, what, in, tracks, k&1 > 0, k&2 > 0, want)
	}
}

// byRoad holds the four Ofs of which all is Good, and nothing is asked for: what counts is what is locked, whether the road is open, and whether a track is not clear (blocked).
func byRoad(t *testing.T, what string, in api.Inputs, tracks []api.Track, blocked bool) {
	t.Helper()
	asks(t, what+", open", in, tracks, false, true, none)
	asks(t, what+", closed", in, tracks, false, false, api.Demand{Close: blocked})
	asks(t, what+", locked, open", in, tracks, true, true, closed)
	asks(t, what+", locked, closed", in, tracks, true, false, closed)
}

// noTracks are no tracks, told both ways.
var noTracks = [][]api.Track{nil, {}}

// P19.1: each Mode, Mains and Lamps told both ways, with no tracks and with tracks that have no Fault.
func TestGoodInputs(t *testing.T) {
	for _, tracks := range append(noTracks, allClear(1), allClear(8), make([]api.Track, 3)) {
		for _, x := range []struct {
			mode         int
			mains, lamps bool
			want         bool
		}{
			{0, true, true, true}, {0, true, false, false}, {0, false, true, false}, {0, false, false, false},
			{1, true, true, false}, {1, true, false, false}, {1, false, true, false}, {1, false, false, false},
			{2, true, true, true}, {2, true, false, false}, {2, false, true, false}, {2, false, false, false},
			{3, true, true, true}, {3, true, false, false}, {3, false, true, false}, {3, false, false, false},
			{-1, true, true, true}, {-1, false, true, false}, {-1, true, false, false}, {-2, true, true, true},
			{4, true, true, true}, {255, true, true, true}, {256, true, true, true}, {257, true, true, true}, {1 << 32, true, true, true}, {1<<32 + 1, true, true, true},
			{least, true, true, true}, {least, false, true, false}, {least + 1, true, true, true}, {least + 1, true, false, false},
			{most, true, true, true}, {most, true, false, false}, {most - 1, true, true, true}, {most, false, true, false},
		} {
			in := api.Inputs{Mode: x.mode, Mains: x.mains, Lamps: x.lamps}
			goods(t, "inputs", in, tracks, x.want)
		}
	}
}

// P19.1: a Fault at each place, and at each of several.
func TestGoodFaults(t *testing.T) {
	for n := range 9 {
		for bits := range 1 << n {
			goods(t, "faults", well(), with(n, bits, faulty), bits == 0)
			goods(t, "faults of tracks that are not clear", well(), with(n, bits, blocked, calls, faulty), bits == 0)
		}
	}
	for _, n := range []int{9, 64, 65, 300} {
		goods(t, "many", well(), allClear(n), true)
		for _, at := range []int{0, 1, n / 2, n - 2, n - 1} {
			tracks := allClear(n)
			tracks[at].Fault = true
			goods(t, "one of many", well(), tracks, false)
		}
	}
}

// P19.1: no other field matters, neither where all is Good, nor where not.
func TestGoodOtherFields(t *testing.T) {
	for _, other := range idle {
		in := well()
		other.change(&in)
		goods(t, other.name, in, nil, true)
		goods(t, other.name, in, allClear(4), true)
		goods(t, other.name+", a Fault", in, with(4, 4, faulty), false)
	}
	for _, routes := range []int{1, 128, 255, -1, least, most} {
		in := well()
		in.Routes = routes
		goods(t, "Routes", in, allClear(2), true)
	}
	for _, b := range bad {
		for _, other := range idle {
			in := well()
			if other.change(&in); in.Mode != api.ModeAuto && b.name == "Mode 1" {
				continue
			}
			b.change(&in)
			goods(t, b.name+", "+other.name, in, allClear(2), false)
		}
	}
	for _, other := range append(still, clears, blocked, calls) {
		for bits := range 8 {
			goods(t, other.name, well(), with(3, bits, other), true)
			goods(t, other.name+", a Fault", well(), with(3, bits|2, other, faulty), false)
			goods(t, other.name+", no tracks clear", well(), with(3, bits, blocked, other), true)
		}
		for _, b := range bad {
			in := well()
			b.change(&in)
			goods(t, other.name+", "+b.name, in, with(3, 7, other), false)
		}
	}
}

// P19.2: the document's example, with whatever else there is.
func TestNoMains(t *testing.T) {
	in := api.Inputs{Lamps: true}
	for _, tracks := range append(noTracks, allClear(1), allClear(8), with(3, 5, blocked), with(3, 2, calls)) {
		fourWays(t, "no mains", in, tracks, urgent)
	}
	fourWays(t, "zero inputs", api.Inputs{}, nil, urgent)
}

// P19.2: what is not Good is Urgent, and closes, alone and with all others.
func TestUrgent(t *testing.T) {
	for _, b := range bad {
		in := well()
		b.change(&in)
		for _, tracks := range append(noTracks, allClear(3), with(3, 1, blocked), with(3, 4, calls), with(3, 7, blocked, calls)) {
			fourWays(t, b.name, in, tracks, urgent)
			for _, routes := range []int{1, 255, -1, least, most} {
				in := in
				in.Routes = routes
				fourWays(t, b.name+", routes", in, tracks, urgent)
			}
		}
	}
	for n := range 5 {
		for bits := 1; bits < 1<<n; bits++ {
			fourWays(t, "Fault", well(), with(n, bits, faulty), urgent)
			fourWays(t, "Fault, not clear, Call", well(), with(n, bits, faulty, blocked, calls), urgent)
			in := well()
			in.Routes = 3
			fourWays(t, "Fault, routes", in, with(n, bits, faulty), urgent)
			in.Mode, in.Mains, in.Lamps = api.ModeClose, false, false
			fourWays(t, "all of them", in, with(n, bits, faulty, calls), urgent)
		}
	}
}

// P19.2: routes alone, each number of them, and with the others.
func TestRoutes(t *testing.T) {
	for _, tracks := range append(noTracks, allClear(1), allClear(8)) {
		for _, routes := range []int{1, 2, 3, 64, 127, 128, 129, 254, 255, 256, 1 << 32, 1 << 62, -1, -2, -128, -256, least, least + 1, most, most - 1} {
			in := well()
			in.Routes = routes
			fourWays(t, "routes", in, tracks, closed)
		}
		byRoad(t, "no routes", well(), tracks, false)
	}
	in := well()
	in.Routes = 128
	fourWays(t, "routes, calls", in, with(4, 2, calls), closed)
	fourWays(t, "routes, not clear", in, with(4, 2, blocked), closed)
	fourWays(t, "routes, calls, not clear", in, with(4, 15, blocked, calls), closed)
}

// P19.2: a Call at each place, and at several, of tracks that are clear, and of those that are not.
func TestCalls(t *testing.T) {
	for n := range 9 {
		for bits := 1; bits < 1<<n; bits++ {
			fourWays(t, "calls", well(), with(n, bits, calls), closed)
			fourWays(t, "calls, not clear", well(), with(n, bits, calls, blocked), closed)
		}
	}
	for _, n := range []int{9, 64, 65, 300} {
		for _, at := range []int{0, 1, n / 2, n - 2, n - 1} {
			fourWays(t, "one of many", well(), slices.Concat(allClear(at), with(1, 1, calls), allClear(n-1-at)), closed)
		}
	}
}

// P19.2: a track that is not Clear at each place, and at several; on an open road it does not matter.
func TestNotClear(t *testing.T) {
	for n := range 9 {
		for bits := range 1 << n {
			byRoad(t, "not clear", well(), with(n, bits, blocked), bits > 0)
		}
	}
	for _, n := range []int{9, 64, 65, 300} {
		byRoad(t, "many", well(), allClear(n), false)
		for _, at := range []int{0, 1, n / 2, n - 2, n - 1} {
			byRoad(t, "one of many", well(), slices.Concat(allClear(at), with(1, 1, blocked), allClear(n-1-at)), true)
		}
	}
}

// P19.2: with no tracks, only the rest counts.
func TestNoTracks(t *testing.T) {
	for _, tracks := range noTracks {
		byRoad(t, "nothing", well(), tracks, false)
		in := well()
		in.Tracks = []api.Counts{{}, {Fresh: true, In: 3}}
		byRoad(t, "counts of tracks", in, tracks, false)
		in.Routes = 1
		fourWays(t, "a route", in, tracks, closed)
		for _, b := range bad {
			in := well()
			b.change(&in)
			fourWays(t, b.name, in, tracks, urgent)
		}
	}
}

// P19.2: no other field matters, whatever is to be closed, or not.
func TestOtherFields(t *testing.T) {
	for _, other := range idle {
		in := well()
		other.change(&in)
		byRoad(t, other.name, in, nil, false)
		byRoad(t, other.name, in, allClear(4), false)
		byRoad(t, other.name, in, with(4, 8, blocked), true)
		fourWays(t, other.name+", a call", in, with(4, 1, calls), closed)
		fourWays(t, other.name+", a fault", in, with(4, 2, faulty), urgent)
		in.Routes = 2
		fourWays(t, other.name+", a route", in, allClear(4), closed)
	}
	for _, other := range still {
		for bits := range 8 {
			byRoad(t, other.name, well(), with(3, bits, other), false)
			byRoad(t, other.name+", not clear", well(), with(3, bits, other, blocked), bits > 0)
			fourWays(t, other.name+", a call", well(), with(3, bits|1, other, calls), closed)
			fourWays(t, other.name+", a fault", well(), with(3, bits|4, other, faulty), urgent)
		}
	}
}

// P19.2: a zero track is one that is not clear, without a call.
func TestZeroTracks(t *testing.T) {
	for n := 1; n <= 9; n++ {
		byRoad(t, "zero tracks", well(), make([]api.Track, n), true)
		goods(t, "zero tracks", well(), make([]api.Track, n), true)
	}
}

// P19.1, P19.2: all that matters told both ways, of two tracks.
func TestAllTogether(t *testing.T) {
	for k := range 1 << 12 {
		told := func(bit int) bool { return k>>bit&1 > 0 }
		tracks := []api.Track{{Fault: told(0), Call: told(1), Clear: told(2)}, {Fault: told(3), Call: told(4), Clear: told(5)}}
		in := api.Inputs{Mains: told(6), Lamps: told(7)}
		if told(8) {
			in.Mode = api.ModeClose
		}
		if told(9) {
			in.Routes = -5
		}
		want := none
		switch {
		case told(0), told(3), !told(6), !told(7), told(8):
			want = urgent
		case told(1), told(4), told(9), told(10):
			want = closed
		case !told(11) && (!told(2) || !told(5)):
			want = closed
		}
		goods(t, "together", in, tracks, want != urgent)
		asks(t, "together", in, tracks, told(10), told(11), want)
	}
}

// number is one that is likely to matter, or any.
func (d *dice) number() int {
	numbers := []int{0, 0, 0, 0, 1, 2, 3, -1, 128, 255, 256, least, most}
	if d.rarely(8) {
		return int(uint64(d.below(1<<31))<<33 ^ uint64(d.below(1<<31)))
	}
	return numbers[d.below(len(numbers))]
}

// inputs are any; often is how often one of what matters is well.
func (d *dice) inputs(often int) api.Inputs {
	in := api.Inputs{
		Barrier:  api.Barrier{EntryDown: d.rarely(2), EntryUp: d.rarely(2), ExitDown: d.rarely(2), ExitUp: d.rarely(2)},
		Sure:     d.rarely(2),
		Lamps:    !d.rarely(often),
		Obstacle: d.rarely(2),
		Mode:     d.number(),
		Mains:    !d.rarely(often),
		Battery:  d.rarely(2),
		Tracks:   make([]api.Counts, d.below(4)),
	}
	if d.rarely(often) {
		in.Routes = d.number()
	}
	return in
}

// tracks are any, up to ten; often is how often one of what matters is well.
func (d *dice) tracks(often int) []api.Track {
	tracks := allClear(d.below(11))
	for i := range tracks {
		tracks[i] = api.Track{
			Axle:  api.Axle{Had: d.rarely(2), In: d.number(), Out: d.number(), Wrong: d.rarely(2)},
			Pair:  api.Pair{Lie: d.number(), Pos: d.number(), Jump: d.rarely(2)},
			Clear: !d.rarely(often),
			Since: d.number(),
			Fault: d.rarely(4 * often),
			Call:  d.rarely(4 * often),
		}
	}
	return tracks
}

// model is what Of is to answer: it counts what is so, and then asks how often it was.
func model(in api.Inputs, tracks []api.Track, locked, open bool) api.Demand {
	faults, calls, taken := 0, 0, 0
	for i := len(tracks) - 1; i >= 0; i-- {
		if tracks[i].Fault {
			faults++
		}
		if tracks[i].Call {
			calls++
		}
		if !tracks[i].Clear {
			taken++
		}
	}
	var d api.Demand
	if faults > 0 || in.Mode == 1 || !in.Mains || !in.Lamps {
		d.Urgent, d.Close = true, true
	}
	if calls > 0 || locked || in.Routes < 0 || in.Routes > 0 {
		d.Close = true
	}
	if taken > 0 && !open {
		d.Close = true
	}
	return d
}

// P19.1, P19.2: by dice, each of the three answers often.
func TestDice(t *testing.T) {
	d := dice(1)
	seen := map[api.Demand]int{}
	for range 200000 {
		often := 1 + d.below(60)
		in, tracks := d.inputs(often), d.tracks(often)
		locked, open := d.rarely(3), d.rarely(2)
		want := model(in, tracks, locked, open)
		seen[want]++
		asks(t, "dice", in, tracks, locked, open, want)
		goods(t, "dice", in, tracks, !want.Urgent)
		if t.Failed() {
			return
		}
	}
	if len(seen) != 3 || seen[none] < 10000 || seen[closed] < 10000 || seen[urgent] < 10000 {
		t.Errorf("%v", seen)
	}
}

// P19.3: while nothing calls, nothing is locked and all is Good, an open road is not to be closed, whatever its tracks are besides; a closed one is, as long as a track is not clear.
func TestNothingCalls(t *testing.T) {
	d := dice(2)
	for range 50000 {
		in, tracks := d.inputs(2), d.tracks(2)
		in.Lamps, in.Mains, in.Routes = true, true, 0
		if in.Mode == api.ModeClose {
			in.Mode = api.ModeReset
		}
		taken := false
		for i := range tracks {
			tracks[i].Fault, tracks[i].Call = false, false
			taken = taken || !tracks[i].Clear
		}
		asks(t, "open", in, tracks, false, true, none)
		asks(t, "closed", in, tracks, false, false, api.Demand{Close: taken})
		for i := range tracks {
			tracks[i].Clear = true
		}
		asks(t, "closed, and all are clear now", in, tracks, false, false, none)
		if t.Failed() {
			return
		}
	}
}

// P19.3: a train that comes and goes, tick by tick, of a road that is opened and closed as it is asked.
func TestTrain(t *testing.T) {
	open := true
	for i, x := range []struct {
		clear, call, want bool
	}{
		{true, false, false}, {false, false, false}, {false, false, false}, {false, true, true}, {false, true, true}, {false, false, true}, {false, false, true}, {true, false, false}, {true, false, false}, {false, false, false},
	} {
		tracks := []api.Track{{Clear: true}, {Clear: x.clear, Call: x.call}}
		got := demand.Of(well(), tracks, false, open)
		if got != (api.Demand{Close: x.want}) {
			t.Errorf("tick %d: %+v", i, got)
		}
		open = !got.Close
	}
}

// P19.3: what is asked of an open road is never more than what is asked of a closed one, and as urgent.
func TestOpenAsksNoMore(t *testing.T) {
	d := dice(3)
	for range 50000 {
		often := 1 + d.below(40)
		in, tracks, locked := d.inputs(often), d.tracks(often), d.rarely(3)
		open, closed := demand.Of(in, tracks, locked, true), demand.Of(in, tracks, locked, false)
		if open.Close && !closed.Close || open.Urgent != closed.Urgent {
			t.Fatalf("%+v, %+v: open %+v, closed %+v", in, tracks, open, closed)
		}
	}
}

// W6: what was handed in, and its spare room, is as it was, and what is changed behind a call changes nothing that was answered.
func TestHandedIn(t *testing.T) {
	in := well()
	in.Tracks = append(make([]api.Counts, 0, 4), api.Counts{Fresh: true, In: 1}, api.Counts{Lie: 3})
	tracks := with(3, 2, calls, blocked)
	roomBefore, countsBefore := slices.Clone(tracks[:cap(tracks)]), slices.Clone(in.Tracks[:4])
	got := demand.Of(in, tracks, false, false)
	demand.Good(in, tracks)
	if !reflect.DeepEqual(tracks[:cap(tracks)], roomBefore) || !reflect.DeepEqual(in.Tracks[:4], countsBefore) {
		t.Errorf("%+v, %+v", tracks[:cap(tracks)], in.Tracks[:4])
	}
	tracks[1] = api.Track{Fault: true}
	if got != closed {
		t.Errorf("%+v", got)
	}
	asks(t, "changed", in, tracks, false, false, urgent)
	tracks[1] = api.Track{Clear: true}
	byRoad(t, "changed again", in, tracks, false)
	if !demand.Good(in, tracks[:2]) {
		t.Error("behind the tracks")
	}
}
