package control_test

import (
	"bytes"
	"errors"
	"reflect"
	"slices"
	"strconv"
	"testing"

	"crossbuck/api"
	"crossbuck/control"
	"crossbuck/crc"
	"crossbuck/delay"
	"crossbuck/fault"
	"crossbuck/journal"
	"crossbuck/store"
)

// timesOf are where the numbers of t stand.
func timesOf(t *api.Times) []*int {
	return []*int{&t.Amber, &t.Red, &t.Entry, &t.Travel, &t.Prove, &t.Open, &t.Override, &t.Fresh, &t.Approach, &t.Warn}
}

// refused are crossings that may not be, one thing wrong in each.
func refused() []api.Config {
	list := []api.Config{{Times: short}, {Lines: []api.Line{}, Times: short}, {}}
	nine := crossing(8)
	nine.Lines = append(nine.Lines, nine.Lines[0])
	list = append(list, nine)
	for place := range timesOf(&short) {
		for _, n := range []int{least, -6000, -1, 0, 6001, 65536 + 5, 1<<32 + 5, most} {
			c := crossing(2)
			*timesOf(&c.Times)[place] = n
			list = append(list, c)
		}
	}
	for _, n := range []int{1, 2, 8} {
		for place := range n {
			for _, l := range badLines(crossing(n).Lines[place]) {
				c := crossing(n)
				c.Lines[place] = l
				list = append(list, c)
			}
		}
	}
	return list
}

// badLines are what a line may not be.
func badLines(good api.Line) []api.Line {
	var list []api.Line
	for _, x := range [][2]int{{100, 0}, {100, -1}, {100, least}, {100, 100}, {100, 101}, {100, most}, {1, 1}, {0, -1}, {0, 0}, {-5, -6}, {1000001, 5}, {most, 5}, {most, most - 1}, {least, least}} {
		l := good
		l.Strike, l.Signal = x[0], x[1]
		list = append(list, l)
	}
	for class := range good.Speeds {
		for _, speed := range []int{least, -1, 0, 5001, most} {
			l := good
			l.Speeds[class] = speed
			list = append(list, l)
		}
	}
	return list
}

// P26.1: crossings that may not be: that error, no controller, and the store as it was, to the byte, and living.
func TestNewRefuses(t *testing.T) {
	for i, c := range refused() {
		for _, s := range []*store.Store{store.New(0), store.New(200), kept(t, 200, []byte{5, 1, 0})} {
			was := bytesOf(s)
			s.Kill(0)
			k, err := control.New(c, s, 5, enough)
			if k != nil || err == nil || fault.Code(err) != api.ErrRange || !errors.Is(err, api.ErrRange) || len(fault.Path(err)) == 0 {
				t.Fatalf("crossing %d, %+v: %v, %v", i, c, k, err)
			}
			if s.Dead() || !bytes.Equal(bytesOf(s), was) {
				t.Fatalf("crossing %d wrote into the store", i)
			}
		}
	}
}

// P26.1: crossings at their limits may be.
func TestNewTakes(t *testing.T) {
	least, most := crossing(1), crossing(8)
	for _, n := range timesOf(&least.Times) {
		*n = 1
	}
	for _, n := range timesOf(&most.Times) {
		*n = 6000
	}
	least.Lines[0] = api.Line{Strike: 2, Signal: 1, Speeds: [3]int{1, 1, 1}}
	most.Lines[7] = api.Line{Strike: 1000000, Signal: 999999, Speeds: [3]int{5000, 5000, 5000}}
	for n := 1; n <= 8; n++ {
		blank(t, crossing(n)).steps(30)
	}
	for _, x := range []struct {
		c    api.Config
		hold int
	}{{least, 4}, {most, 12002}} {
		r := blank(t, x.c)
		if got := r.k.State().Locks; got[len(got)-1] != (api.Lock{Hold: x.hold}) {
			t.Errorf("locks: %+v", got)
		}
		r.steps(40)
	}
}

// A beginning is a store's bytes, and what is to be told of them.
type beginning struct {
	name               string
	b                  []byte
	phase, wrong, jump int
}

// turned is b with a bit turned at a place, counted from the end of what was written.
func turned(b []byte, at int) []byte {
	b = bytes.Clone(b)
	b[at] ^= 4
	return b
}

func beginnings(t *testing.T) []beginning {
	of := func(size int, rows ...[]byte) []byte { return bytesOf(kept(t, size, rows...)) }
	list := []beginning{
		{"blank", of(200), 3, 0, 0},
		{"no bytes", nil, 3, 0, 0},
		{"zeros", make([]byte, 200), 3, 0, 0},
		{"too few bytes", of(200, []byte{5, 1}), 3, 0, 0},
		{"one byte", of(200, []byte{5}), 3, 0, 0},
		{"too many bytes", of(200, []byte{5, 1, 0, 0}), 3, 0, 0},
		{"forty bytes", of(200, make([]byte, 40)), 3, 0, 0},
		{"first byte 8", of(200, []byte{8, 255, 255}), 3, 0, 0},
		{"first byte 13", of(200, []byte{13, 255, 255}), 3, 0, 0},
		{"first byte 255", of(200, []byte{255, 255, 255}), 3, 0, 0},
		{"none behind a record", of(200, []byte{5, 1, 0}, []byte{5, 1}), 3, 0, 0},
		{"a record behind none", of(200, []byte{9, 1, 0}, []byte{5, 1, 0}), 5, 1, 0},
		{"many", of(200, []byte{5, 1, 0}, []byte{6, 2, 1}, []byte{0, 3, 2}, []byte{1, 0, 128}), 1, 0, 128},
		{"second bank", of(22, []byte{5, 1, 0}, []byte{4, 2, 1}), 4, 2, 1},
		{"first bank again", of(22, []byte{5, 1, 0}, []byte{4, 2, 1}, []byte{2, 7, 7}), 2, 7, 7},
		{"spoilt", turned(of(200, []byte{5, 1, 0}), 6), 3, 0, 0},
		{"the last one spoilt", turned(of(200, []byte{5, 1, 0}, []byte{6, 0, 0}), 17), 5, 1, 0},
		{"spoilt behind the last", turned(of(200, []byte{4, 0, 9}), 60), 4, 0, 9},
	}
	for p := range 8 {
		for _, x := range [][2]int{{0, 0}, {1, 0}, {0, 1}, {255, 255}, {129, 66}, {2, 128}} {
			list = append(list, beginning{"phase " + strconv.Itoa(p), of(200, []byte{byte(p), byte(x[0]), byte(x[1])}), []int{6, 1, 2, 3, 4, 5, 6, 3}[p], x[0], x[1]})
		}
	}
	return list
}

// pools are the pools that are asked for, and how many timers they bring.
var pools = [][2]int{{least, 0}, {-1, 0}, {0, 0}, {1, 1}, {2, 2}, {64, 64}, {65, 64}, {most, 64}}

// begins is the state with which one begins.
func begins(x beginning, n int, start uint64, timers int) api.State {
	want := api.State{Now: start, Road: api.Road{Phase: x.phase, Since: 1}}
	if x.phase <= 2 && timers < 1 || x.phase == 3 && timers < 2 {
		want.Road.Phase = 7
	}
	for i := range n {
		want.Tracks = append(want.Tracks, api.Track{Axle: api.Axle{Wrong: x.wrong>>i&1 == 1}, Pair: api.Pair{Jump: x.jump>>i&1 == 1}})
		want.Locks = append(want.Locks, api.Lock{Hold: hold})
	}
	return want
}

// P26.1: what one begins with, over stores of each kind, living and dead, of one, two and eight lines, at each start, with each pool; nothing is written for that. The Steps behind it are the model's.
func TestNew(t *testing.T) {
	for _, x := range beginnings(t) {
		for _, n := range []int{1, 2, 8} {
			for i, start := range []uint64{0, 1, 1 << 63, end} {
				for _, pool := range pools {
					s := written(t, x.b)
					s.Kill(0)
					if i%2 > 0 {
						s.Write(0, []byte{1})
					}
					dead := s.Dead()
					k, err := control.New(crossing(n), s, start, pool[0])
					if err != nil {
						t.Fatal(err)
					}
					if got, want := k.State(), begins(x, n, start, pool[1]); !reflect.DeepEqual(got, want) {
						t.Fatalf("%s, %d lines, pool %d: %+v, not %+v", x.name, n, pool[0], got, want)
					}
					if len(k.Events()) != 0 || s.Dead() != dead || !bytes.Equal(bytesOf(s), x.b) {
						t.Fatalf("%s: %v, %t, % x", x.name, k.Events(), s.Dead(), bytesOf(s))
					}
					over(t, crossing(n), x.b, start, pool[0]).steps(3)
				}
			}
		}
	}
}

// P26.1: the Inputs have as many tracks as there are lines: a route of another one is none, and what is told of it is not heard.
func TestNewTracks(t *testing.T) {
	for n := 1; n <= 8; n++ {
		r := closed(t, crossing(n), 1<<n-1)
		if got := r.step(); got.Signals != 1<<n-1 {
			t.Errorf("%d lines: %+v", n, got)
		}
		r.world.Routes = 1 << n
		if n < 8 {
			if got := r.step(); got.Signals != 0 {
				t.Errorf("%d lines, another route: %+v", n, got)
			}
		}
	}
}

// P26.1: the Inputs are fresh for so many ticks.
func TestNewFresh(t *testing.T) {
	for _, fresh := range []int{1, 2, 3, 7, 20} {
		c := crossing(2)
		c.Times.Fresh = fresh
		r := opened(t, c)
		r.mute[api.ChanTrack+1] = true
		for k := range fresh + 4 {
			r.step()
			if got := r.k.State().Tracks[1].Fault; got != (k >= fresh) {
				t.Fatalf("Fresh %d, %d ticks behind: %t", fresh, k+1, got)
			}
		}
	}
}

// The document's example: of no telegrams no signals, and the road is closed.
func TestExample(t *testing.T) {
	for _, none := range [][][]byte{nil, {}} {
		r := blank(t, crossing(2))
		entry, exit := api.Lights{Red: true, Bell: true, EntryDown: true}, api.Lights{Red: true, Bell: true, EntryDown: true, ExitDown: true}
		// With no telegram an obstacle is taken to be there: it is overridden behind 7 ticks.
		for k := range 100 {
			want := api.Outputs{Lights: exit}
			if k < 6 {
				want.Lights = entry
			}
			if got := r.hand(none); got != want {
				t.Fatalf("tick %d: %+v, not %+v", k+1, got, want)
			}
		}
	}
}

// gates are barriers that move by a step a tick.
type gates struct {
	entry, exit, travel int
}

// move moves them as the lights tell.
func (g *gates) move(l api.Lights) {
	g.entry, g.exit = g.moved(g.entry, l.EntryDown), g.moved(g.exit, l.ExitDown)
}

func (g *gates) moved(at int, lower bool) int {
	if lower {
		return min(at+1, g.travel)
	}
	return max(at-1, 0)
}

// told is where they are proved to be.
func (g *gates) told() api.Barrier {
	return api.Barrier{EntryDown: g.entry == g.travel, EntryUp: g.entry == 0, ExitDown: g.exit == g.travel, ExitUp: g.exit == 0}
}

// lightsOf are those of each phase.
var lightsOf = [8]api.Lights{
	{},
	{Amber: true, Bell: true},
	{Red: true, Bell: true},
	{Red: true, Bell: true, EntryDown: true},
	{Red: true, Bell: true, EntryDown: true, ExitDown: true},
	{Red: true, EntryDown: true, ExitDown: true},
	{Red: true},
	{Red: true, Bell: true, EntryDown: true, ExitDown: true},
}

// The example of the whole, tick by tick: on a blank store the barriers are lowered, and raised when no train can come any more; a train strikes in at tick 17, a route is asked for from tick 19 to 34, the signal shows clear at 33, the train passes, and is gone at 38; the locking ends, the barriers are raised, the road is open.
func TestWhole(t *testing.T) {
	r := blank(t, crossing(2))
	g := &gates{travel: short.Travel}
	for i, want := range [][5]int{ // phase, since, signals, the first signal's Hold, Proved
		{3, 2, 0, 10, 0}, {4, 1, 0, 9, 0}, {4, 2, 0, 8, 0}, {4, 3, 0, 7, 0}, {4, 4, 0, 6, 0},
		{5, 1, 0, 5, 1}, {5, 2, 0, 4, 2}, {5, 3, 0, 3, 3}, {5, 4, 0, 2, 3}, {5, 5, 0, 1, 3}, {5, 6, 0, 0, 3},
		{6, 1, 0, 0, 3}, {6, 2, 0, 0, 0}, {6, 3, 0, 0, 0}, {6, 4, 0, 0, 0},
		{0, 1, 0, 0, 0}, {0, 2, 0, 0, 0}, {0, 3, 0, 0, 0}, {0, 4, 0, 0, 0},
		{1, 1, 0, 0, 0}, {1, 2, 0, 0, 0}, {2, 1, 0, 0, 0}, {2, 2, 0, 0, 0}, {2, 3, 0, 0, 0},
		{3, 1, 0, 0, 0}, {3, 2, 0, 0, 0}, {4, 1, 0, 0, 0}, {4, 2, 0, 0, 0}, {4, 3, 0, 0, 0}, {4, 4, 0, 0, 0},
		{5, 1, 0, 0, 1}, {5, 2, 0, 0, 2}, {5, 3, 1, 11, 3}, {5, 4, 1, 11, 3},
		{5, 5, 0, 10, 3}, {5, 6, 0, 9, 3}, {5, 7, 0, 8, 3}, {5, 8, 0, 7, 3}, {5, 9, 0, 6, 3}, {5, 10, 0, 5, 3}, {5, 11, 0, 4, 3}, {5, 12, 0, 3, 3}, {5, 13, 0, 2, 3}, {5, 14, 0, 1, 3}, {5, 15, 0, 0, 3},
		{6, 1, 0, 0, 3}, {6, 2, 0, 0, 0}, {6, 3, 0, 0, 0}, {6, 4, 0, 0, 0},
		{0, 1, 0, 0, 0}, {0, 2, 0, 0, 0}, {0, 3, 0, 0, 0}, {0, 4, 0, 0, 0}, {0, 5, 0, 0, 0}, {0, 6, 0, 0, 0},
	} {
		tick := i + 1
		r.world.Barrier = g.told()
		switch tick {
		case 17:
			r.world.Tracks[0].In = 5
		case 19:
			r.world.Routes = 1
		case 35:
			r.world.Routes = 0
		case 38:
			r.world.Tracks[0].Out = 5
		}
		got := r.step()
		if got != (api.Outputs{Signals: want[2], Lights: lightsOf[want[0]]}) {
			t.Fatalf("tick %d: %+v", tick, got)
		}
		s := r.k.State()
		if s.Now != uint64(tick) || s.Road != (api.Road{Phase: want[0], Since: want[1]}) || s.Locks[0] != (api.Lock{Clear: want[2] == 1, Hold: want[3]}) || s.Proved != want[4] || s.Dead {
			t.Fatalf("tick %d: %+v, not %v", tick, s, want)
		}
		if s.Locks[1] != (api.Lock{Hold: max(hold-tick, 0)}) || s.Tracks[0].Clear != (tick < 17 || tick >= 38) || !s.Tracks[1].Clear {
			t.Fatalf("tick %d: %+v", tick, s)
		}
		g.move(got.Lights)
	}
	want := []api.Event{
		{At: 2, Code: 1, Arg: 4}, {At: 6, Code: 1, Arg: 5}, {At: 12, Code: 1, Arg: 6}, {At: 16, Code: 1, Arg: 0},
		{At: 20, Code: 1, Arg: 1}, {At: 22, Code: 1, Arg: 2}, {At: 25, Code: 1, Arg: 3}, {At: 27, Code: 1, Arg: 4}, {At: 31, Code: 1, Arg: 5},
		{At: 33, Code: 2, Arg: 1}, {At: 35, Code: 2, Arg: 0}, {At: 46, Code: 1, Arg: 6}, {At: 50, Code: 1, Arg: 0},
	}
	if got := r.k.Events(); !slices.Equal(got, want) {
		t.Errorf("events: %+v", got)
	}
	if j := journal.Open(r.s); j.Seq() != 12 {
		t.Errorf("%d records", j.Seq())
	}
}

// P26.2, 1: a tick more at each Step.
func TestClock(t *testing.T) {
	for _, start := range []uint64{0, 1, 41, 1<<32 - 2, 1<<63 - 2, 1 << 63, end - 30} {
		r := over(t, crossing(2), nil, start, enough)
		if got := r.k.State().Now; got != start {
			t.Fatalf("ahead: %d, not %d", got, start)
		}
		r = over(t, crossing(2), bytesOf(store.New(60)), start, enough)
		for k := range uint64(30) {
			r.hand(nil)
			if got := r.k.State().Now; got != start+k+1 {
				t.Fatalf("tick %d: %d", k, got)
			}
		}
	}
}

// P26.2, 5: at the end of time the machine fails, in each phase, whatever it would do: all signals at stop, the barriers down; it stays so, and so does one that begins then.
func TestEndOfTime(t *testing.T) {
	for p := range 7 {
		for _, barrier := range []api.Barrier{up, down, between} {
			for _, ahead := range []uint64{0, 1, 4} {
				r := over(t, crossing(2), bytesOf(kept(t, 200, []byte{byte(p), 0, 0})), end-ahead, enough)
				r.world.Barrier, r.world.Routes = barrier, 3
				for range ahead {
					if got := r.step(); got.Failed {
						t.Fatalf("phase %d: %+v", p, got)
					}
				}
				for k := range 5 {
					if got := r.step(); got != (api.Outputs{Lights: lightsOf[7], Failed: true}) {
						t.Fatalf("phase %d: %+v", p, got)
					}
					r.isIn(7, k+1)
				}
				s, events := r.k.State(), r.k.Events()
				if s.Now != end || events[len(events)-1].At != end {
					t.Fatalf("phase %d: %+v, %+v", p, s, events)
				}
				r.begin(end, enough)
				r.isIn(3, 1)
				r.step()
				r.isIn(7, 1)
			}
		}
	}
}

// P26.2, 5: at the end of time a signal that shows clear is at stop, and its train is still locked.
func TestEndOfTimeOfSignals(t *testing.T) {
	r := over(t, crossing(2), bytesOf(kept(t, 200, []byte{5, 0, 0})), end-4, enough)
	r.world.Barrier, r.world.Routes = down, 2
	for k, want := range []int{0, 0, 2, 2, 0, 0} {
		if got := r.step(); got.Signals != want || got.Failed != (k > 3) {
			t.Fatalf("tick %d: %+v", k+1, got)
		}
	}
	if got := r.k.State().Locks; got[1] != (api.Lock{Hold: hold - 2}) {
		t.Errorf("locks: %+v", got)
	}
	want := []api.Event{{At: end - 1, Code: 2, Arg: 2}, {At: end, Code: 1, Arg: 7}, {At: end, Code: 2, Arg: 0}}
	if got := r.k.Events(); !slices.Equal(got, want) {
		t.Errorf("events: %+v", got)
	}
}

// P26.2, 5: one that failed already is not failed anew by the end of time.
func TestEndOfTimeOfFailed(t *testing.T) {
	r := over(t, crossing(2), bytesOf(store.New(200)), end-2, 0)
	for k := range 6 {
		r.step()
		r.isIn(7, k+2)
	}
}

// P26.2, 2: each track waits as long as its line, and its train's class, tell; then it calls, and the road is closed in that very tick.
func TestDelays(t *testing.T) {
	for place, row := range waits {
		for class, wait := range row {
			r := opened(t, crossing(8))
			r.steps(short.Open)
			r.world.Tracks[place] = api.Counts{Fresh: true, In: 3, Class: class}
			for range wait {
				r.step()
				if s := r.k.State(); s.Road.Phase != api.PhaseOpen || s.Tracks[place].Call || s.Tracks[place].Clear {
					t.Fatalf("track %d, class %d: %+v", place, class, s)
				}
			}
			r.step()
			r.isIn(api.PhaseAmber, 1)
			for i, x := range r.k.State().Tracks {
				if x.Call != (i == place) {
					t.Fatalf("track %d, class %d: track %d, %+v", place, class, i, x)
				}
			}
		}
		c := crossing(8)
		if table, err := delay.Table(c); err != nil || table[place] != row {
			t.Fatalf("delays of line %d: %v", place, table)
		}
	}
}

// P26.2, 2: what went wrong is forgotten in ModeReset alone, in the very tick that tells of it, where no axle and no treadle is in the way.
func TestReset(t *testing.T) {
	for mode := range 3 {
		r := from(t, crossing(8), api.PhaseDown, 0b10101011, 0b10010110)
		r.world.Barrier = down
		r.world.Tracks[0].In = 7
		r.world.Tracks[1].Lie = 1
		r.world.Tracks[2].Lie = 2
		r.steps(3)
		if got := r.m.faulty; got != 0b10111111 {
			t.Fatalf("faults ahead: %b", got)
		}
		r.world.Mode = mode
		r.step()
		want := 0b10111111
		if mode == api.ModeReset {
			want = 0b111
		}
		faults := 0
		for i, x := range r.k.State().Tracks {
			if x.Fault {
				faults |= 1 << i
			}
		}
		if faults != want {
			t.Fatalf("mode %d: %b, not %b", mode, faults, want)
		}
	}
}

// P26.2, 3: what is wrong in a tick closes an open road in that very tick, however short it was open.
func TestUrgent(t *testing.T) {
	for name, wrong := range map[string]func(r *rig){
		"lamps":    func(r *rig) { r.world.Lamps = false },
		"mains":    func(r *rig) { r.world.Mains = false },
		"mode":     func(r *rig) { r.world.Mode = api.ModeClose },
		"counters": func(r *rig) { r.world.Tracks[1].Out = 1 },
		"treadles": func(r *rig) { r.world.Tracks[0].Lie = 3 },
	} {
		for ticks := range 5 {
			r := opened(t, crossing(2))
			r.steps(ticks)
			r.isIn(api.PhaseOpen, ticks+1)
			wrong(r)
			if got := r.step(); got != (api.Outputs{Lights: lightsOf[1]}) {
				t.Fatalf("%s, %d ticks: %+v", name, ticks, got)
			}
		}
	}
	for _, name := range []string{"battery", "obstacle", "barrier"} {
		r := opened(t, crossing(2))
		r.world.Battery, r.world.Obstacle = name != "battery", name == "obstacle"
		if name == "barrier" {
			r.world.Barrier = half
		}
		r.steps(20)
		r.isIn(api.PhaseOpen, 21)
	}
}

// P26.2, 3: what only asks for closing waits till the road was open for its time.
func TestClose(t *testing.T) {
	for name, asks := range map[string]func(r *rig){
		"route": func(r *rig) { r.world.Routes = 2 },
		"call":  func(r *rig) { r.world.Tracks[1] = api.Counts{Fresh: true, In: 1, Class: 0} },
	} {
		r := opened(t, crossing(2))
		asks(r)
		for k := 2; k <= short.Open; k++ {
			r.step()
			r.isIn(api.PhaseOpen, k)
		}
		r.step()
		if got := r.k.State().Road; got != (api.Road{Phase: 1, Since: 1}) {
			t.Errorf("%s: %+v", name, got)
		}
	}
}

// P26.2, 3: the tracks are those behind this tick's Steps: a closed road is raised in the very tick in which its track is clear again, and its signals are not locked any more.
func TestDemandOfTracks(t *testing.T) {
	for place := range 2 {
		r := from(t, crossing(2), api.PhaseDown, 0, 0)
		r.world.Barrier = down
		r.world.Tracks[place].In = 9
		r.steps(hold + 5)
		r.isIn(api.PhaseDown, hold+6)
		r.world.Tracks[place].Out = 9
		r.step()
		r.isIn(api.PhaseRaise, 1)
	}
}

// P26.2, 3: a track that is not clear, and does not call, keeps a closed road closed, but not an open one: whether the road is open is asked ahead of the machine's Step.
func TestDemandOfOpen(t *testing.T) {
	far := api.Counts{Fresh: true, In: 9, Class: 0} // of the third track: calls behind 18 ticks
	r := from(t, crossing(3), api.PhaseRaise, 0, 0)
	r.world.Barrier = between
	r.steps(hold)
	r.world.Barrier, r.world.Tracks[2] = up, far
	r.step()
	r.isIn(api.PhaseOpen, 1)
	for k := range 17 {
		r.step()
		r.isIn(api.PhaseOpen, k+2)
	}
	r.step()
	r.isIn(api.PhaseAmber, 1)
	// In PhaseAmber its call is over at once, but it is still not clear.
	r = from(t, crossing(3), api.PhaseAmber, 0, 0)
	r.world.Tracks[2] = far
	r.steps(16)
	if s := r.k.State(); s.Road.Phase != api.PhaseExit || s.Tracks[2].Call {
		t.Errorf("%+v", s)
	}
	// All is calm, and no signal is locked: an open road is left alone.
	r = opened(t, crossing(3))
	r.steps(short.Open)
	r.world.Tracks[2] = far
	r.steps(18)
	r.isIn(api.PhaseOpen, short.Open+19)
}

// P26.2, 3, 8: the locks are those ahead of this tick: a signal that shows clear for the last time at a tick keeps the road closed for as many ticks as Hold tells, and raised in the next one.
func TestDemandOfLocks(t *testing.T) {
	for place := range 3 {
		r := closed(t, crossing(3), 1<<place)
		if got := r.step(); got.Signals != 1<<place {
			t.Fatal(got)
		}
		r.world.Routes = 0
		for k := 1; k <= hold; k++ {
			if got := r.step(); got.Signals != 0 {
				t.Fatalf("tick %d: %+v", k, got)
			}
			s := r.k.State()
			if s.Road.Phase != api.PhaseDown || s.Locks[place] != (api.Lock{Hold: hold - k}) {
				t.Fatalf("tick %d: %+v", k, s)
			}
		}
		r.step()
		r.isIn(api.PhaseRaise, 1)
	}
}

// P26.2, 3: of one that begins each signal is locked for as long.
func TestDemandOfFirstLocks(t *testing.T) {
	r := from(t, crossing(2), api.PhaseDown, 0, 0)
	r.world.Barrier = down
	for k := range hold {
		r.step()
		r.isIn(api.PhaseDown, k+2)
	}
	r.step()
	r.isIn(api.PhaseRaise, 1)
}

// proofs are what is told of the barriers in a tick, a letter each: d down, u up, h half, x between, l a telegram that is lost, s one that is spoilt, o one that was there, w one of two bytes.
func (r *rig) proof(letter byte) api.Outputs {
	r.t.Helper()
	known := map[byte]api.Barrier{'d': down, 'u': up, 'h': half, 'x': between}
	if b, ok := known[letter]; ok {
		r.world.Barrier = b
		return r.step()
	}
	r.world.Barrier = down
	list := r.telegrams()
	switch letter {
	case 'l':
		list = list[1:]
	case 's':
		list[0][3] ^= 16
	case 'o':
		list[0] = sealed(0, r.seq[0]-1, []byte{5})
	case 'w':
		list[0] = sealed(0, r.seq[0], []byte{5, 5})
	}
	return r.hand(list)
}

// P26.2, 4: what proves is a telegram of this very tick that tells of both barriers down; each tick without one begins anew, and the signals are at stop in that tick.
func TestProved(t *testing.T) {
	for _, x := range []struct {
		row    string
		proved []int
	}{
		{"ddddd", []int{1, 2, 3, 3, 3}},
		{"ddldddd", []int{1, 2, 0, 1, 2, 3, 3}},
		{"dddldld", []int{1, 2, 3, 0, 1, 0, 1}},
		{"dddsddd", []int{1, 2, 3, 0, 1, 2, 3}},
		{"dddoddd", []int{1, 2, 3, 0, 1, 2, 3}},
		{"dddwddd", []int{1, 2, 3, 0, 1, 2, 3}},
		{"ddduddd", []int{1, 2, 3, 0, 1, 2, 3}},
		{"dddhddd", []int{1, 2, 3, 0, 1, 2, 3}},
		{"dddxddd", []int{1, 2, 3, 0, 1, 2, 3}},
		{"lllddlddd", []int{0, 0, 0, 1, 2, 0, 1, 2, 3}},
		{"ddddlllllldddd", []int{1, 2, 3, 3, 0, 0, 0, 0, 0, 0, 1, 2, 3, 3}},
	} {
		r := from(t, crossing(2), api.PhaseDown, 0, 0)
		r.world.Routes = 3
		for i, want := range x.proved {
			signals := 0
			if want == 3 {
				signals = 3
			}
			if got := r.proof(x.row[i]); got.Signals != signals {
				t.Fatalf("%s, tick %d: %+v", x.row, i, got)
			}
			if got := r.k.State().Proved; got != want {
				t.Fatalf("%s, tick %d: Proved %d, not %d", x.row, i, got, want)
			}
		}
	}
}

// P26.2, 4, 6: with each Prove the signals show clear at the tick of that number, in which it is proved, and not ahead of it.
func TestProve(t *testing.T) {
	for _, n := range []int{1, 2, 3, 9, 100} {
		c := crossing(1)
		c.Times.Prove = n
		r := from(t, c, api.PhaseDown, 0, 0)
		r.world.Barrier, r.world.Routes = down, 1
		for k := 1; k <= n+3; k++ {
			if got := r.step(); (got.Signals == 1) != (k >= n) || r.k.State().Proved != min(k, n) {
				t.Fatalf("Prove %d, tick %d: %+v", n, k, got)
			}
		}
	}
}

// P26.2, 5: the machine is told of the barriers though that was told some ticks ago, but nothing is proved by it.
func TestBarrierNotSure(t *testing.T) {
	r := from(t, crossing(2), api.PhaseEntry, 0, 0)
	r.world.Barrier, r.world.Routes = down, 3
	r.step()
	r.mute[api.ChanBarrier] = true
	r.step()
	r.isIn(api.PhaseExit, 1)
	r.step()
	r.isIn(api.PhaseDown, 1)
	if s := r.k.State(); s.Proved != 0 {
		t.Errorf("%+v", s)
	}
}

// P26.2, 5: the machine is told of the obstacle: over one the exit barriers wait, till it is overridden, or gone.
func TestObstacle(t *testing.T) {
	for gone := range 12 {
		r := from(t, crossing(2), api.PhaseEntry, 0, 0)
		r.world.Obstacle, r.world.Routes = true, 1
		for k := 1; k < 12; k++ {
			r.world.Obstacle = k < gone
			want := min(max(gone, short.Entry), short.Entry+short.Override)
			if got := r.step(); got.Lights.ExitDown != (k >= want) {
				t.Fatalf("gone at %d, tick %d: %+v", gone, k, got)
			}
		}
	}
}

// P26.2, 6: the signals are those of the routes that are asked for, over a road that is in PhaseDown in this very tick, if nothing is wrong.
func TestSignals(t *testing.T) {
	for routes := range 8 {
		r := closed(t, crossing(3), routes)
		if got := r.step(); got.Signals != routes {
			t.Errorf("routes %d: %+v", routes, got)
		}
	}
	for name, wrong := range map[string]func(r *rig){
		"lamps":    func(r *rig) { r.world.Lamps = false },
		"mains":    func(r *rig) { r.world.Mains = false },
		"close":    func(r *rig) { r.world.Mode = api.ModeClose },
		"reset":    func(r *rig) { r.world.Mode = api.ModeReset },
		"counters": func(r *rig) { r.world.Tracks[1].Out = 1 },
		"treadles": func(r *rig) { r.world.Tracks[2].Lie = 3 },
		"barrier":  func(r *rig) { r.world.Barrier = half },
		"no route": func(r *rig) { r.world.Routes = 0 },
	} {
		r := closed(t, crossing(3), 5)
		r.step()
		wrong(r)
		if got := r.step(); got.Signals != 0 {
			t.Errorf("%s: %+v", name, got)
		}
	}
	// A track that is not clear is no fault: its train is the one that comes.
	r := closed(t, crossing(3), 5)
	r.world.Tracks[0].In = 20
	if got := r.step(); got.Signals != 5 {
		t.Errorf("a train: %+v", got)
	}
}

// P26.2, 6: over a road that is in PhaseDown from this very tick on, and proved in it.
func TestSignalsAtOnce(t *testing.T) {
	c := crossing(2)
	c.Times.Prove = 1
	r := from(t, c, api.PhaseExit, 0, 0)
	r.world.Barrier, r.world.Routes = down, 2
	if got := r.step(); got != (api.Outputs{Signals: 2, Lights: lightsOf[5]}) {
		t.Errorf("%+v", got)
	}
	r.isIn(api.PhaseDown, 1)
	// And not any more from the tick on in which it is left.
	r = closed(t, crossing(2), 0)
	r.steps(hold - short.Prove)
	r.isIn(api.PhaseDown, hold+1)
	if got := r.step(); got != (api.Outputs{Lights: lightsOf[6]}) {
		t.Errorf("%+v", got)
	}
}

// P26.2, 8: each signal's lock goes by its own bit of this very tick.
func TestLocks(t *testing.T) {
	r := closed(t, crossing(4), 0)
	r.world.Tracks[3].In = 1 // keeps the road closed
	r.steps(hold)
	want := make([]api.Lock, 4)
	for i, routes := range []int{1, 1, 3, 8, 8, 0, 15, 6, 0, 0, 4, 0, 0, 0, 0, 0, 0, 0, 0, 0, 0, 0, 0, 0, 0, 0} {
		r.world.Routes = routes
		if got := r.step(); got.Signals != routes {
			t.Fatalf("tick %d: %+v", i, got)
		}
		for k := range want {
			if routes>>k&1 == 1 {
				want[k] = api.Lock{Clear: true, Hold: hold}
			} else {
				want[k] = api.Lock{Hold: max(want[k].Hold-1, 0)}
			}
		}
		if got := r.k.State().Locks; !slices.Equal(got, want) {
			t.Fatalf("tick %d: %+v, not %+v", i, got, want)
		}
	}
}

// lasts holds the journal's last row, and its number.
func (r *rig) lasts(seq int, row ...byte) {
	r.t.Helper()
	j := journal.Open(r.s)
	if got, ok := j.Last(); !ok || !bytes.Equal(got, row) || j.Seq() != uint32(seq) {
		r.t.Fatalf("the last row: % x, %t, number %d, not % x, %d", got, ok, j.Seq(), row, seq)
	}
}

// P26.2, 7: the first Step on a store without a record writes one; those of which it is the same write nothing: a store that is to die at the first byte lives.
func TestRecordFirst(t *testing.T) {
	r := blank(t, crossing(2))
	r.world.Routes = 1
	r.step()
	r.lasts(1, 3, 0, 0)
	r.step()
	r.lasts(2, 4, 0, 0)
	r.kill(0)
	r.steps(30)
	r.lasts(2, 4, 0, 0)
	if r.s.Dead() {
		t.Error("dead")
	}
	// No row that is none is a record: what is the same as no record is written.
	r = over(t, crossing(2), bytesOf(kept(t, 200, []byte{0, 0})), 0, enough)
	r.step()
	r.lasts(2, 3, 0, 0)
}

// P26.2, 7: one that begins on the record of the road and tracks that it has writes nothing, till one of them is another.
func TestRecordAgain(t *testing.T) {
	for _, p := range []int{1, 2, 4, 5} {
		for _, x := range []struct{ wrong, jump int }{{0, 0}, {3, 0}, {0, 3}, {2, 1}} {
			c := crossing(2)
			c.Times.Amber, c.Times.Red = 50, 50
			r := from(t, c, p, x.wrong, x.jump)
			r.world.Barrier, r.world.Routes = half, 1
			r.kill(0)
			r.steps(10)
			r.lasts(1, byte(p), byte(x.wrong), byte(x.jump))
			if r.s.Dead() {
				t.Error("dead")
			}
		}
	}
	// The record that there is tells of tracks that are not there.
	r := from(t, crossing(2), api.PhaseDown, 7, 9)
	r.step()
	r.lasts(2, 5, 3, 1)
	r.step()
	r.lasts(2, 5, 3, 1)
	// One that failed writes it though the record that there is tells the phase in which it began.
	r = over(t, crossing(2), bytesOf(kept(t, 200, []byte{3, 0, 0})), 0, 1)
	r.step()
	r.lasts(2, 7, 0, 0)
	// But not if that tells so already.
	r = over(t, crossing(2), bytesOf(kept(t, 200, []byte{7, 0, 0})), 0, 1)
	r.kill(0)
	r.steps(5)
	r.lasts(1, 7, 0, 0)
}

// P26.2, 7: a record is written when its Phase, its Wrong, or its Jump alone is another, to and fro, and of each track.
func TestRecordOfEach(t *testing.T) {
	r := from(t, crossing(8), api.PhaseRaise, 0, 0)
	r.world.Barrier = between
	r.steps(3)
	r.lasts(1, 6, 0, 0)
	r.world.Barrier = up
	r.step()
	r.lasts(2, 0, 0, 0)
	for place := range 8 {
		r = from(t, crossing(8), api.PhaseDown, 0, 0)
		r.world.Barrier, r.world.Routes = down, 1
		r.steps(2)
		r.lasts(1, 5, 0, 0)
		r.world.Tracks[place].Out = 1
		r.step()
		r.lasts(2, 5, 1<<place, 0)
		r.world.Tracks[place].In = 1
		r.steps(2)
		r.lasts(2, 5, 1<<place, 0)
		r.world.Tracks[place].Lie = 3
		r.step()
		r.lasts(3, 5, 1<<place, 1<<place)
		r.world.Tracks[place].Lie, r.world.Mode = 2, api.ModeReset
		r.step()
		r.lasts(4, 5, 0, 1<<place)
		r.world.Tracks[place].Lie = 0
		r.step()
		r.lasts(5, 5, 0, 0)
		r.steps(3)
		r.lasts(5, 5, 0, 0)
	}
}

// P26.2, 7: the record is that of the road behind this tick's Step, and of its tracks: one that begins again has what the last Step had.
func TestRecordOfThisTick(t *testing.T) {
	r := opened(t, crossing(2))
	r.world.Lamps = false
	r.world.Tracks[1].Out = 1
	r.step()
	j := journal.Open(r.s)
	if got, _ := j.Last(); !bytes.Equal(got, []byte{1, 2, 0}) {
		t.Errorf("% x", got)
	}
	r.begin(77, enough)
	if s := r.k.State(); s.Road != (api.Road{Phase: 1, Since: 1}) || !s.Tracks[1].Axle.Wrong || s.Now != 77 {
		t.Errorf("%+v", s)
	}
}

// P26.2, 7: a Step that dies: Stop; the signals as they were, and no event but that of the journal; but the clock, the tracks, Proved and the road have gone on.
func TestDies(t *testing.T) {
	for after := range 11 {
		r := closed(t, crossing(2), 2)
		r.step()
		events := r.k.Events()
		r.kill(after)
		r.world.Tracks[0].Out = 1
		if got := r.step(); got != stop {
			t.Fatalf("%d bytes: %+v", after, got)
		}
		s := r.k.State()
		want := api.State{
			Now:  5,
			Road: api.Road{Phase: 5, Since: 6},
			Tracks: []api.Track{
				{Axle: api.Axle{Had: true, Out: 1, Wrong: true}, Since: 1, Fault: true, Call: true},
				{Axle: api.Axle{Had: true}, Clear: true},
			},
			Locks:  []api.Lock{{Hold: hold - 4}, {Clear: true, Hold: hold}},
			Proved: 3,
			Dead:   true,
		}
		if !reflect.DeepEqual(s, want) {
			t.Fatalf("%d bytes: %+v, not %+v", after, s, want)
		}
		if got := r.k.Events(); !slices.Equal(got, append(events, api.Event{At: 5, Code: 4, Arg: 7})) {
			t.Fatalf("%d bytes: %+v", after, got)
		}
	}
	r := closed(t, crossing(2), 2)
	r.kill(11)
	r.world.Tracks[0].Out = 1
	if got := r.step(); got.Dead {
		t.Errorf("all bytes: %+v", got)
	}
}

// P26.2, 7: a Step that dies as its phase changes, or its proof: these stay changed.
func TestDiesInPhase(t *testing.T) {
	r := from(t, crossing(2), api.PhaseExit, 0, 0)
	r.world.Routes = 1
	r.step()
	r.kill(5)
	r.world.Barrier = down
	if got := r.step(); got != stop {
		t.Fatal(got)
	}
	s := r.k.State()
	if s.Now != 2 || s.Road != (api.Road{Phase: 5, Since: 1}) || s.Proved != 1 || !s.Dead || s.Locks[0] != (api.Lock{Hold: hold - 1}) {
		t.Errorf("%+v", s)
	}
	if got := r.k.Events(); !slices.Equal(got, []api.Event{{At: 2, Code: 4, Arg: 7}}) {
		t.Errorf("%+v", got)
	}
	// Begun again it is where its last record was.
	r.revive()
	r.begin(2, enough)
	r.isIn(api.PhaseExit, 1)
}

// P26.2: one that is dead tells Stop at each Step, whatever comes, though its store lives again, and nothing happens.
func TestDead(t *testing.T) {
	for _, revived := range []bool{false, true} {
		r := closed(t, crossing(2), 2)
		r.kill(3)
		r.world.Tracks[0].Out = 1
		r.step()
		if revived {
			r.revive()
		}
		s, events, b := r.k.State(), r.k.Events(), bytesOf(r.s)
		d := dice(1)
		for k := range 60 {
			var got api.Outputs
			switch k % 4 {
			case 0:
				got = r.step()
			case 1:
				r.world = calm(2)
				got = r.step()
			case 2:
				got = r.hand(nil)
			case 3:
				got = r.hand([][]byte{nil, d.row(8)})
			}
			if got != stop {
				t.Fatalf("tick %d: %+v", k, got)
			}
		}
		if got := r.k.State(); !reflect.DeepEqual(got, s) || !slices.Equal(r.k.Events(), events) || !bytes.Equal(bytesOf(r.s), b) {
			t.Errorf("%+v, not %+v", got, s)
		}
	}
}

// P26.2, 7: a store that has no room for a record: ErrFull. One of two banks of a record each is enough.
func TestNoRoom(t *testing.T) {
	for size := range 30 {
		r := over(t, crossing(2), bytesOf(store.New(size)), 9, enough)
		got := r.step()
		if got.Dead != (size < 22) {
			t.Fatalf("%d bytes: %+v", size, got)
		}
		if size < 22 {
			if got != stop || !slices.Equal(r.k.Events(), []api.Event{{At: 10, Code: 4, Arg: 5}}) {
				t.Errorf("%d bytes: %+v, %+v", size, got, r.k.Events())
			}
			continue
		}
		r.till(api.PhaseOpen)
		r.world.Routes = 1
		r.till(api.PhaseExit)
	}
}

// P26.2, 7: a journal whose numbers are at their end: ErrFull, when another record is to be written.
func TestNoNumber(t *testing.T) {
	row := append(crc.Seal([]byte{3, 255, 255, 255, 255, 5, 0, 0}), 0)
	r := over(t, crossing(2), append(row, bytes.Repeat([]byte{255}, 60)...), 0, enough)
	r.isIn(5, 1)
	r.world.Barrier = down
	r.steps(5)
	r.lasts(1<<32-1, 5, 0, 0)
	r.world.Tracks[0].Lie = 3
	if got := r.step(); got != stop {
		t.Errorf("%+v", got)
	}
	if got := r.k.Events(); !slices.Equal(got, []api.Event{{At: 6, Code: 4, Arg: 5}}) {
		t.Errorf("%+v", got)
	}
}

// P26.2: the outputs in each phase.
func TestOutputs(t *testing.T) {
	c := crossing(2)
	for _, n := range timesOf(&c.Times) {
		*n = 90
	}
	for p := range 8 {
		r := from(t, c, p, 0, 0)
		r.world.Routes, r.world.Barrier = 1, between
		want := api.Outputs{Lights: lightsOf[p]}
		switch p {
		case 0:
			r.world.Barrier = up
		case 7:
			r.begin(0, 0)
			want.Failed = true
		}
		for k := range 20 {
			if got := r.step(); got != want {
				t.Fatalf("phase %d, tick %d: %+v, not %+v", p, k, got, want)
			}
		}
	}
}

// P26.1, P26.2: with each pool: an open road asks for one timer, entry barriers for two.
func TestPools(t *testing.T) {
	for _, pool := range pools {
		r := over(t, crossing(2), bytesOf(kept(t, 200, []byte{6, 0, 0})), 0, pool[0])
		r.isIn(6, 1)
		r.step()
		if pool[1] == 0 {
			r.isIn(7, 1)
			continue
		}
		r.isIn(0, 1)
		r.world.Routes = 1
		r.steps(short.Open + short.Amber + short.Red)
		if pool[1] == 1 {
			r.isIn(7, 1)
			if got := r.step(); got != (api.Outputs{Lights: lightsOf[7], Failed: true}) {
				t.Errorf("%+v", got)
			}
			continue
		}
		r.isIn(3, 1)
	}
}

// P26.3: State ahead of the first Step, behind Steps, told field by field.
func TestState(t *testing.T) {
	r := from(t, crossing(2), api.PhaseEntry, 2, 1)
	want := api.State{
		Road:   api.Road{Phase: 3, Since: 1},
		Tracks: []api.Track{{Pair: api.Pair{Jump: true}}, {Axle: api.Axle{Wrong: true}}},
		Locks:  []api.Lock{{Hold: 11}, {Hold: 11}},
	}
	if got := r.k.State(); !reflect.DeepEqual(got, want) {
		t.Fatalf("ahead: %+v", got)
	}
	r.world.Barrier = down
	r.world.Tracks[0] = api.Counts{Fresh: true, In: 9, Out: 4, Lie: 1, Class: 1}
	r.step()
	want = api.State{
		Now:  1,
		Road: api.Road{Phase: 3, Since: 2},
		Tracks: []api.Track{
			{Axle: api.Axle{Had: true, In: 9, Out: 4}, Pair: api.Pair{Lie: 1, Pos: 1, Jump: true}, Since: 1, Fault: true, Call: true},
			{Axle: api.Axle{Had: true, Wrong: true}, Since: 1, Fault: true, Call: true},
		},
		Locks:  []api.Lock{{Hold: 10}, {Hold: 10}},
		Proved: 1,
	}
	if got := r.k.State(); !reflect.DeepEqual(got, want) {
		t.Fatalf("behind one: %+v", got)
	}
	r.world.Mode, r.world.Routes = api.ModeReset, 3
	r.world.Tracks[0].Lie = 0
	r.steps(2)
	r.world.Mode = api.ModeAuto
	r.step()
	want = api.State{
		Now:  4,
		Road: api.Road{Phase: 5, Since: 2},
		Tracks: []api.Track{
			{Axle: api.Axle{Had: true, In: 9, Out: 4}, Since: 4, Call: true},
			{Axle: api.Axle{Had: true}, Clear: true},
		},
		Locks:  []api.Lock{{Clear: true, Hold: 11}, {Clear: true, Hold: 11}},
		Proved: 3,
	}
	if got := r.k.State(); !reflect.DeepEqual(got, want) {
		t.Fatalf("behind four: %+v", got)
	}
}

// P26.3: of a Step in which the phase, the signals and the faults change all together: in that order.
func TestEventsTogether(t *testing.T) {
	c := crossing(3)
	c.Times.Prove = 1
	r := from(t, c, api.PhaseExit, 0, 0)
	r.world.Routes = 5
	r.mute[api.ChanTrack+1] = true
	r.step()
	if got := r.k.Events(); !slices.Equal(got, []api.Event{{At: 1, Code: 3, Arg: 2}}) {
		t.Fatalf("faults alone: %+v", got)
	}
	r.mute[api.ChanTrack+1] = false
	r.world.Barrier = down
	r.step()
	want := []api.Event{{At: 1, Code: 3, Arg: 2}, {At: 2, Code: 1, Arg: 5}, {At: 2, Code: 2, Arg: 5}, {At: 2, Code: 3, Arg: 0}}
	if got := r.k.Events(); !slices.Equal(got, want) {
		t.Fatalf("all: %+v", got)
	}
	// And at the end of time.
	r = over(t, c, bytesOf(kept(t, 200, []byte{5, 0, 0})), end-1, enough)
	r.world.Barrier, r.world.Routes = down, 6
	r.step()
	r.world.Tracks[0].Lie, r.world.Tracks[2].Out = 3, 1
	r.step()
	want = []api.Event{{At: end, Code: 2, Arg: 6}, {At: end, Code: 1, Arg: 7}, {At: end, Code: 2, Arg: 0}, {At: end, Code: 3, Arg: 5}}
	if got := r.k.Events(); !slices.Equal(got, want) {
		t.Fatalf("at the end: %+v", got)
	}
}

// P26.3: of the first Step: no signals and no faults ahead of it, whatever the record told, and the phase is another one than that in which it began.
func TestEventsFirst(t *testing.T) {
	r := from(t, crossing(3), api.PhaseDown, 5, 2)
	if got := r.k.Events(); len(got) != 0 {
		t.Fatalf("ahead: %+v", got)
	}
	r.step()
	if got := r.k.Events(); !slices.Equal(got, []api.Event{{At: 1, Code: 3, Arg: 7}}) {
		t.Fatalf("faults: %+v", got)
	}
	r = from(t, crossing(3), api.PhaseOpen, 0, 0)
	r.step()
	if got := r.k.Events(); !slices.Equal(got, []api.Event{{At: 1, Code: 1, Arg: 0}}) {
		t.Fatalf("raised: %+v", got)
	}
	r = from(t, crossing(3), api.PhaseRaise, 0, 0)
	r.hand(nil)
	if got := r.k.Events(); !slices.Equal(got, []api.Event{{At: 1, Code: 1, Arg: 1}, {At: 1, Code: 3, Arg: 7}}) {
		t.Fatalf("no telegrams: %+v", got)
	}
	c := crossing(3)
	c.Times.Prove = 1
	r = from(t, c, api.PhaseDown, 0, 0)
	r.world.Barrier, r.world.Routes = down, 4
	r.step()
	if got := r.k.Events(); !slices.Equal(got, []api.Event{{At: 1, Code: 2, Arg: 4}}) {
		t.Fatalf("signals: %+v", got)
	}
}

// P26.3: signals and faults that change to others, none of which is none; no event where nothing changes.
func TestEventsOfChanges(t *testing.T) {
	r := closed(t, crossing(4), 0)
	for _, routes := range []int{1, 3, 3, 2, 12, 12, 0, 0, 15, 1} {
		r.world.Routes = routes
		r.step()
	}
	want := []api.Event{{At: 4, Code: 2, Arg: 1}, {At: 5, Code: 2, Arg: 3}, {At: 7, Code: 2, Arg: 2}, {At: 8, Code: 2, Arg: 12}, {At: 10, Code: 2, Arg: 0}, {At: 12, Code: 2, Arg: 15}, {At: 13, Code: 2, Arg: 1}}
	if got := r.k.Events(); !slices.Equal(got, want) {
		t.Fatalf("signals: %+v", got)
	}
	r = from(t, crossing(4), api.PhaseDown, 0, 0)
	r.world.Barrier, r.world.Routes = down, 1
	r.step()
	for _, lies := range [][4]int{{3, 0, 0, 0}, {3, 0, 0, 3}, {0, 0, 0, 0}, {0, 3, 0, 0}} {
		for i, lie := range lies {
			r.world.Tracks[i].Lie = lie
		}
		r.step()
	}
	want = []api.Event{{At: 2, Code: 3, Arg: 1}, {At: 3, Code: 3, Arg: 9}, {At: 5, Code: 3, Arg: 11}}
	if got := r.k.Events(); !slices.Equal(got, want) {
		t.Fatalf("faults: %+v", got)
	}
}

// P26.3: the journal's event is the only one of its Step, though the phase, the signals and the faults would have changed.
func TestEventsJournal(t *testing.T) {
	r := over(t, crossing(3), bytesOf(kept(t, 200, []byte{5, 0, 0})), end-3, enough)
	r.world.Barrier, r.world.Routes = down, 6
	r.steps(3)
	r.kill(2)
	r.world.Tracks[0].Lie = 3
	r.step()
	want := []api.Event{{At: end, Code: 2, Arg: 6}, {At: end, Code: 4, Arg: 7}}
	if got := r.k.Events(); !slices.Equal(got, want) {
		t.Fatalf("%+v", got)
	}
	if got := r.k.State().Road; got != (api.Road{Phase: 7, Since: 1}) {
		t.Errorf("%+v", got)
	}
}

// P26.3: of more than 64 events the last ones.
func TestEventsMany(t *testing.T) {
	r := closed(t, crossing(1), 0)
	var want []api.Event
	for k := range 150 {
		r.world.Routes = (k + 1) % 2
		r.step()
		want = append(want, api.Event{At: uint64(k + 4), Code: 2, Arg: (k + 1) % 2})
		if got := r.k.Events(); !slices.Equal(got, want[max(0, len(want)-64):]) {
			t.Fatalf("%d events: %+v", len(want), got)
		}
	}
}

// P26.4, W6: what is written into the crossing's lines behind New, their spare room too, is not seen; and no call changes them.
func TestCrossingHandedIn(t *testing.T) {
	room := crossing(8)
	c := room
	c.Lines = room.Lines[:3]
	k, err := control.New(c, store.New(200), 0, enough)
	if err != nil || !reflect.DeepEqual(room, crossing(8)) {
		t.Fatalf("%v, %+v", err, room)
	}
	other := api.Line{Strike: -5, Signal: 7, Speeds: [3]int{1, 1, 1}}
	for i := range room.Lines {
		room.Lines[i] = other
	}
	r := blank(t, crossing(3))
	for tick := range 90 {
		if tick == 30 {
			r.world.Tracks[2] = api.Counts{Fresh: true, In: 4, Class: 0}
		}
		list := r.telegrams()
		if got, want := k.Step(list), r.hand(list); got != want || !reflect.DeepEqual(k.State(), r.k.State()) {
			t.Fatalf("tick %d: %+v, not %+v", tick, got, want)
		}
	}
	for _, l := range room.Lines {
		if l != other {
			t.Errorf("the crossing: %+v", room)
		}
	}
}

// deep is a list of copies.
func deep(list [][]byte) [][]byte {
	var all [][]byte
	for _, b := range list {
		all = append(all, bytes.Clone(b))
	}
	return all
}

// roomy is a list of copies, with a telegram in its spare room, and bytes in that of each.
func roomy(list [][]byte) [][]byte {
	var all [][]byte
	for _, b := range list {
		all = append(all, append(bytes.Clone(b), 1, 2, 3)[:len(b)])
	}
	return append(all, []byte{9, 9})[:len(list)]
}

// whole are all that a list holds, its spare room too.
func whole(list [][]byte) [][]byte {
	var all [][]byte
	for _, b := range list[:cap(list)] {
		all = append(all, b[:cap(b)])
	}
	return all
}

// P26.4, W6: what is written into the telegrams and their bytes behind a Step is not seen, and no Step changes them, or their spare room.
func TestTelegramsHandedIn(t *testing.T) {
	r := blank(t, crossing(2))
	k, err := control.New(crossing(2), store.New(200), 0, enough)
	if err != nil {
		t.Fatal(err)
	}
	for tick := range 120 {
		if tick == 40 {
			r.world.Routes, r.world.Barrier = 3, down
		}
		list := r.telegrams()
		// In most ticks there are none: what was told ahead of them counts on.
		if tick%3 > 0 {
			list = nil
		}
		handed := roomy(list)
		was := deep(whole(handed))
		got, want := k.Step(handed), r.hand(list)
		if got != want || !reflect.DeepEqual(k.State(), r.k.State()) {
			t.Fatalf("tick %d: %+v, not %+v", tick, got, want)
		}
		for i, b := range whole(handed) {
			if !bytes.Equal(b, was[i]) {
				t.Fatalf("tick %d: telegram %d was changed", tick, i)
			}
			copy(b, bytes.Repeat([]byte{0xa5}, len(b)))
		}
		clear(handed[:cap(handed)])
	}
}

// spoil writes into all that was answered, the spare room too, and appends to it.
func spoil(s api.State, events []api.Event) {
	for _, l := range [][]api.Track{s.Tracks, append(s.Tracks, api.Track{Fault: true})} {
		for i := range l[:cap(l)] {
			l[:cap(l)][i] = api.Track{Axle: api.Axle{Wrong: true}, Fault: true, Call: true, Since: 99}
		}
	}
	for _, l := range [][]api.Lock{s.Locks, append(s.Locks, api.Lock{Clear: true})} {
		for i := range l[:cap(l)] {
			l[:cap(l)][i] = api.Lock{Clear: true, Hold: 4711}
		}
	}
	for _, l := range [][]api.Event{events, append(events, api.Event{Code: 9})} {
		for i := range l[:cap(l)] {
			l[:cap(l)][i] = api.Event{At: 4711, Code: 9, Arg: -1}
		}
	}
}

// P26.4, W6: what is written into answers, their spare room too, or appended to them, is seen in no later one, nor do two share memory.
func TestAnswersShareNothing(t *testing.T) {
	r := blank(t, crossing(5))
	for tick := range 200 {
		r.world.Routes = tick / 40
		r.world.Barrier = []api.Barrier{up, down, down, between}[tick/10%4]
		r.world.Tracks[tick%5].Lie = tick / 7 % 4
		r.step()
		one, events := r.k.State(), r.k.Events()
		other, others := r.k.State(), r.k.Events()
		was, were := r.m.state(), slices.Clone(others)
		was.Tracks, was.Locks = slices.Clone(was.Tracks), slices.Clone(was.Locks)
		spoil(one, events)
		if !reflect.DeepEqual(other, was) || !slices.Equal(others, were) {
			t.Fatalf("tick %d: two answers share memory", tick)
		}
		spoil(other, others)
		r.holds("answers that were written into")
	}
}

// W2: being asked changes nothing: one that is asked often tells what one tells that is asked at the end.
func TestAskedChangesNothing(t *testing.T) {
	for seed := range 20 {
		d := dice(seed + 40)
		r := blank(t, crossing(3))
		k, err := control.New(crossing(3), store.New(200), 0, enough)
		if err != nil {
			t.Fatal(err)
		}
		for range 300 {
			d.stir(r)
			list := r.telegrams()
			if got, want := k.Step(list), r.hand(list); got != want {
				t.Fatalf("%+v, not %+v", got, want)
			}
		}
		if !reflect.DeepEqual(k.State(), r.k.State()) || !slices.Equal(k.Events(), r.k.Events()) {
			t.Fatalf("%+v, not %+v", k.State(), r.k.State())
		}
	}
}

// W2, P26.4: two controllers on two stores share nothing: in turn they answer what each answers alone; and so do two that are told the same.
func TestApart(t *testing.T) {
	d, e := dice(60), dice(61)
	one, two := blank(t, crossing(8)), blank(t, crossing(2))
	same, err := control.New(crossing(8), store.New(200), 0, enough)
	if err != nil {
		t.Fatal(err)
	}
	for range 1500 {
		d.stir(one)
		list := one.telegrams()
		if got, want := same.Step(list), one.hand(list); got != want {
			t.Fatalf("two that are told the same: %+v, %+v", got, want)
		}
		e.stir(two)
		two.step()
		one.holds("another's Step")
	}
}

// W1: no telegrams, however many, and of whatever bytes, let a Step panic; of those that are none nothing is heard.
func TestJunk(t *testing.T) {
	d := dice(5)
	for _, start := range []uint64{0, 1 << 63, end - 40, end} {
		for _, pool := range []int{least, 0, 1, 2, 64, most} {
			r := over(t, crossing(1+d.below(8)), bytesOf(store.New(d.below(60))), start, pool)
			for range 60 {
				var list [][]byte
				for range d.below(80) {
					list = append(list, [][]byte{nil, {}, d.row(1), d.row(d.below(40)), d.row(3000), sealed(d.below(256), d.below(256), d.row(d.below(256))), sealed(d.below(16), d.below(256), d.row(d.one(1, 4)))}[d.below(7)])
				}
				r.hand(list)
			}
		}
	}
	r := blank(t, crossing(2))
	r.hand(make([][]byte, 100000))
	r.hand([][]byte{make([]byte, 1<<20), bytes.Repeat([]byte{255}, 1<<20)})
}

// P26.2, W5: a Step of no telegrams, of nil, of nil ones and of empty ones are the same: what was told ahead of it counts as long as it is fresh.
func TestNoTelegrams(t *testing.T) {
	for _, none := range [][][]byte{nil, {}, {nil}, {{}}, {nil, {}, nil}} {
		r := opened(t, crossing(2))
		for range short.Fresh {
			if got := r.hand(none); got != (api.Outputs{}) {
				t.Fatalf("%+v", got)
			}
		}
		if got := r.hand(none); got != (api.Outputs{Lights: lightsOf[1]}) {
			t.Fatalf("stale: %+v", got)
		}
	}
}

// P26.2, 1: telegrams of a tick are taken in their order: of two of one channel the later one counts, if its number is a later one.
func TestOrder(t *testing.T) {
	r := closed(t, crossing(2), 0)
	ahead := r.telegrams()
	r.world.Routes = 1
	list := append(ahead, r.telegrams()...)
	if got := r.hand(list); got.Signals != 1 {
		t.Errorf("in order: %+v", got)
	}
	r = closed(t, crossing(2), 0)
	ahead = r.telegrams()
	r.world.Routes = 1
	list = append(r.telegrams(), ahead...)
	if got := r.hand(list); got.Signals != 1 {
		t.Errorf("out of order: %+v", got)
	}
}
