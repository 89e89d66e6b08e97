package road_test

import (
	"testing"

	"crossbuck/api"
	"crossbuck/phase"
	"crossbuck/road"
)

const (
	least = api.MinInt
	most  = api.MaxInt
)

// dice are numbers that look like no rule, the same at each run.
type dice uint64

func (d *dice) below(n int) int {
	*d = *d*6364136223846793005 + 1442695040888963407
	return int(uint64(*d)>>33) % n
}

// rarely is true once in n times.
func (d *dice) rarely(n int) bool {
	return d.below(n) == 0
}

// phases are all that there are; needs tells how many timers each needs.
var (
	phases = []int{0, 1, 2, 3, 4, 5, 6, 7}
	needs  = [8]int{1, 1, 1, 2, 0, 0, 0, 0}
)

// noPhases are numbers that are none: those beside the ends, and those whose lowest bits are a phase's.
func noPhases() []int {
	list := []int{-1, -2, -8, -256, 8, 9, 255, 256, least, least + 1, most, most - 1}
	for _, high := range []int{8, 256, 1 << 32, 1 << 62, -256, least} {
		for _, p := range phases {
			list = append(list, high+p)
		}
	}
	return list
}

// pools are the pools that are asked for, and how many timers they bring.
var pools = [][2]int{{least, 0}, {least + 1, 0}, {-64, 0}, {-2, 0}, {-1, 0}, {0, 0}, {1, 1}, {2, 2}, {3, 3}, {32, 32}, {63, 63}, {64, 64}, {65, 64}, {1000, 64}, {1 << 32, 64}, {1<<32 + 1, 64}, {most - 1, 64}, {most, 64}}

// enough are pools of two timers and more.
var enough = []int{2, 3, 4, 63, 64, 65, 1 << 32, most}

var (
	demands = []api.Demand{{}, {Close: true}, {Urgent: true}, {Close: true, Urgent: true}}
	none    = demands[0]
	closed  = demands[1]
	// hasty is urgent, but not to close: no call tells so, but Step may be handed it.
	hasty  = demands[2]
	urgent = demands[3]

	up      = api.Barrier{EntryUp: true, ExitUp: true}
	between = api.Barrier{}
	half    = api.Barrier{EntryDown: true, ExitUp: true}
	down    = api.Barrier{EntryDown: true, ExitDown: true}
)

// barriers are all sixteen.
func barriers() []api.Barrier {
	var list []api.Barrier
	for k := range 16 {
		list = append(list, api.Barrier{EntryDown: k&1 > 0, EntryUp: k&2 > 0, ExitDown: k&4 > 0, ExitUp: k&8 > 0})
	}
	return list
}

// first is what a phase begins with.
func first(phase int) api.Road {
	return api.Road{Phase: phase, Since: 1}
}

// begun is what a machine of so many timers has when r, a phase's first tick, begins.
func begun(r api.Road, timers int) api.Road {
	if needs[r.Phase] > timers {
		return first(7)
	}
	return r
}

// handed is what a Step is handed.
type handed struct {
	d        api.Demand
	b        api.Barrier
	obstacle bool
}

// everyHanded are each demand with each barrier, with an obstacle and without one.
func everyHanded() []handed {
	var list []handed
	for _, d := range demands {
		for _, b := range barriers() {
			list = append(list, handed{d, b, false}, handed{d, b, true})
		}
	}
	return list
}

// thrown is any of these.
func (d *dice) thrown() handed {
	return handed{
		d:        demands[[]int{0, 1, 1, 1, 2, 3}[d.below(6)]],
		b:        api.Barrier{EntryDown: d.rarely(2), EntryUp: d.rarely(2), ExitDown: d.rarely(2), ExitUp: d.rarely(2)},
		obstacle: d.rarely(2),
	}
}

// A row throws what is handed in tick by tick, as the outer world goes: a demand and an obstacle stay for some ticks.
type row struct {
	*dice
	handed
	calm, stands, moves int
}

func (d *dice) row() *row {
	return &row{dice: d, calm: 2 + d.below(60), stands: 2 + d.below(20), moves: []int{1, 2, 3, 12}[d.below(4)]}
}

func (r *row) next() handed {
	if r.rarely(r.calm) {
		r.d = demands[[]int{0, 0, 1, 1, 1, 1, 2, 3}[r.below(8)]]
	}
	if r.rarely(r.stands) {
		r.obstacle = !r.obstacle
	}
	r.b = api.Barrier{EntryDown: r.rarely(r.moves), EntryUp: r.rarely(r.moves), ExitDown: r.rarely(r.moves), ExitUp: r.rarely(r.moves)}
	return r.handed
}

// times are of several kinds, all such as config takes.
var times = []api.Times{
	{Amber: 1, Red: 1, Entry: 1, Travel: 1, Prove: 1, Open: 1, Override: 1, Fresh: 1, Approach: 1, Warn: 1},
	{Amber: 2, Red: 3, Entry: 2, Travel: 1, Prove: 1, Open: 4, Override: 3, Fresh: 1, Approach: 1, Warn: 1},
	{Amber: 5, Red: 2, Entry: 4, Travel: 9, Prove: 9, Open: 1, Override: 1, Fresh: 9, Approach: 9, Warn: 9},
	{Amber: 1, Red: 7, Entry: 1, Travel: 3, Prove: 2, Open: 6, Override: 6, Fresh: 4, Approach: 5, Warn: 8},
	{Amber: 30, Red: 50, Entry: 40, Travel: 60, Prove: 10, Open: 100, Override: 600, Fresh: 20, Approach: 300, Warn: 250},
	{Amber: 6000, Red: 6000, Entry: 6000, Travel: 6000, Prove: 6000, Open: 6000, Override: 6000, Fresh: 6000, Approach: 6000, Warn: 6000},
}

// mild are times of which each phase ends soon.
var mild = times[1]

// smallTimes are by dice, from 1 on.
func (d *dice) smallTimes() api.Times {
	of := func() int { return 1 + d.below(9) }
	return api.Times{Amber: of(), Red: of(), Entry: of(), Travel: of(), Prove: of(), Open: of(), Override: of(), Fresh: of(), Approach: of(), Warn: of()}
}

// anyTimes are by dice, of any length that config takes, short and long ones beside each other.
func (d *dice) anyTimes() api.Times {
	of := func() int { return 1 + d.below([]int{2, 70, 300, 6000}[d.below(4)]) }
	return api.Times{Amber: of(), Red: of(), Entry: of(), Travel: of(), Prove: of(), Open: of(), Override: of(), Fresh: of(), Approach: of(), Warn: of()}
}

// A pair is a machine, and beside it the road that phase tells of.
type pair struct {
	t      *testing.T
	m      *road.Machine
	times  api.Times
	timers int
	r      api.Road
}

// start is a new pair; timers is how many the pool brings.
func start(t *testing.T, times api.Times, pool int) *pair {
	t.Helper()
	p := &pair{t: t, m: road.New(times, pool), times: times, timers: min(max(pool, 0), 64)}
	p.r = begun(first(0), p.timers)
	p.holds("New", p.m.Now())
	return p
}

// holds holds what a call answered, and what is told Now as often as it is asked, against what it should be.
func (p *pair) holds(what string, got api.Road) {
	p.t.Helper()
	if got != p.r {
		p.t.Fatalf("%s of %+v with %d timers: %+v, not %+v", what, p.times, p.timers, got, p.r)
	}
	for range 2 {
		if now := p.m.Now(); now != p.r {
			p.t.Fatalf("Now behind %s of %+v with %d timers: %+v, not %+v", what, p.times, p.timers, now, p.r)
		}
	}
}

// step steps both.
func (p *pair) step(h handed) api.Road {
	p.t.Helper()
	ahead := p.r
	p.r = phase.Step(p.times, p.m.Now(), h.d, h.b, h.obstacle)
	if p.r.Phase != ahead.Phase {
		p.r = begun(p.r, p.timers)
	}
	p.holds("Step", p.m.Step(h.d, h.b, h.obstacle))
	return p.r
}

// enter enters a phase.
func (p *pair) enter(to int) {
	p.t.Helper()
	p.r = first(7)
	if to >= 0 && to <= 7 {
		p.r = begun(first(to), p.timers)
	}
	p.holds("Enter", p.m.Enter(to))
}

// fail fails.
func (p *pair) fail() {
	p.t.Helper()
	if p.r.Phase != 7 {
		p.r = first(7)
	}
	p.holds("Fail", p.m.Fail())
}

// told holds a Step of m against a road that is told by itself.
func told(t *testing.T, m *road.Machine, h handed, want api.Road) {
	t.Helper()
	if got := m.Step(h.d, h.b, h.obstacle); got != want {
		t.Fatalf("Step(%+v): %+v, not %+v", h, got, want)
	}
	now(t, m, want)
}

// now holds Now, as often as it is asked.
func now(t *testing.T, m *road.Machine, want api.Road) {
	t.Helper()
	for range 3 {
		if got := m.Now(); got != want {
			t.Fatalf("Now: %+v, not %+v", got, want)
		}
	}
}

// P21.1: pools of each kind.
func TestNew(t *testing.T) {
	for _, p := range pools {
		for _, x := range times {
			want := api.Road{Phase: api.PhaseOpen, Since: 1}
			if p[1] == 0 {
				want = api.Road{Phase: api.PhaseFailed, Since: 1}
			}
			now(t, road.New(x, p[0]), want)
		}
	}
}

// P21.1: how many timers a pool brings, which PhaseEntry asks for.
func TestPools(t *testing.T) {
	for _, p := range pools {
		for _, to := range phases {
			m := road.New(mild, p[0])
			want := first(to)
			if p[1] < needs[to] {
				want = first(7)
			}
			if got := m.Enter(to); got != want {
				t.Errorf("Enter(%d) with a pool of %d: %+v", to, p[0], got)
			}
			now(t, m, want)
		}
	}
}

// P21.1: being asked changes nothing.
func TestNowChangesNothing(t *testing.T) {
	d := dice(1)
	for range 100 {
		x := d.smallTimes()
		r := d.row()
		asked, other := road.New(x, 2), road.New(x, 2)
		for range 100 {
			for range d.below(4) {
				asked.Now()
			}
			h := r.next()
			if got, want := asked.Step(h.d, h.b, h.obstacle), other.Step(h.d, h.b, h.obstacle); got != want {
				t.Fatalf("asked ahead of it: %+v, not %+v", got, want)
			}
		}
	}
}

// The document's example.
func TestExample(t *testing.T) {
	for _, x := range times {
		now(t, road.New(x, 0), api.Road{Phase: 7, Since: 1})
	}
}

// The example of phase: Amber 2: Amber, Amber, Red.
func TestExampleOfPhase(t *testing.T) {
	m := road.New(mild, 2)
	if got := m.Enter(api.PhaseAmber); got != (api.Road{Phase: 1, Since: 1}) {
		t.Error(got)
	}
	told(t, m, handed{d: closed}, api.Road{Phase: 1, Since: 2})
	told(t, m, handed{d: closed}, api.Road{Phase: 2, Since: 1})
	m = road.New(mild, 1)
	told(t, m, handed{d: urgent}, api.Road{Phase: 1, Since: 1})
	told(t, m, handed{d: urgent}, api.Road{Phase: 1, Since: 2})
	told(t, m, handed{d: closed}, api.Road{Phase: 2, Since: 1})
}

// P21.2: a train comes and goes, tick by tick, over an obstacle that is overridden, and one that goes away.
func TestTrain(t *testing.T) {
	for _, pool := range enough {
		m := road.New(mild, pool)
		for i, x := range []struct {
			handed
			want api.Road
		}{
			{handed{none, up, false}, api.Road{Phase: 0, Since: 2}}, {handed{closed, up, false}, api.Road{Phase: 0, Since: 3}}, {handed{closed, up, false}, api.Road{Phase: 0, Since: 4}}, {handed{closed, up, false}, first(1)},
			{handed{closed, up, false}, api.Road{Phase: 1, Since: 2}}, {handed{closed, up, false}, first(2)},
			{handed{closed, up, false}, api.Road{Phase: 2, Since: 2}}, {handed{closed, up, false}, api.Road{Phase: 2, Since: 3}}, {handed{closed, up, false}, first(3)},
			{handed{closed, up, true}, api.Road{Phase: 3, Since: 2}}, {handed{closed, between, true}, api.Road{Phase: 3, Since: 3}}, {handed{closed, half, true}, api.Road{Phase: 3, Since: 4}}, {handed{closed, half, true}, api.Road{Phase: 3, Since: 5}}, {handed{closed, half, true}, first(4)},
			{handed{closed, half, true}, api.Road{Phase: 4, Since: 2}}, {handed{closed, api.Barrier{EntryDown: true}, false}, api.Road{Phase: 4, Since: 3}}, {handed{closed, down, false}, first(5)},
			{handed{closed, down, false}, api.Road{Phase: 5, Since: 2}}, {handed{urgent, between, true}, api.Road{Phase: 5, Since: 3}}, {handed{none, down, false}, first(6)},
			{handed{closed, down, false}, api.Road{Phase: 6, Since: 2}}, {handed{none, half, false}, api.Road{Phase: 6, Since: 3}}, {handed{closed, up, false}, first(0)},
			{handed{urgent, up, false}, first(1)}, {handed{urgent, up, false}, api.Road{Phase: 1, Since: 2}}, {handed{none, up, false}, first(6)}, {handed{urgent, up, false}, first(1)},
			{handed{urgent, up, false}, api.Road{Phase: 1, Since: 2}}, {handed{urgent, up, false}, first(2)}, {handed{closed, up, false}, api.Road{Phase: 2, Since: 2}}, {handed{closed, up, false}, api.Road{Phase: 2, Since: 3}}, {handed{closed, up, false}, first(3)},
			{handed{closed, up, true}, api.Road{Phase: 3, Since: 2}}, {handed{closed, half, true}, api.Road{Phase: 3, Since: 3}}, {handed{closed, half, false}, first(4)}, {handed{none, down, false}, first(6)}, {handed{none, up, true}, first(0)}, {handed{closed, up, false}, api.Road{Phase: 0, Since: 2}},
			{handed{hasty, up, false}, first(1)}, {handed{hasty, up, false}, first(6)}, {handed{hasty, up, false}, first(1)},
		} {
			if got := m.Step(x.d, x.b, x.obstacle); got != x.want {
				t.Fatalf("pool %d, tick %d: %+v, not %+v", pool, i, got, x.want)
			}
			now(t, m, x.want)
		}
	}
}

// A timed phase ends at one time alone, which set tells, if h is handed in.
type timed struct {
	phase, to int
	h         handed
	set       func(*api.Times, int)
}

var timeds = []timed{
	{0, 1, handed{d: closed}, func(t *api.Times, n int) { t.Open = n }},
	{0, 1, handed{d: closed, b: down, obstacle: true}, func(t *api.Times, n int) { t.Open = n }},
	{1, 2, handed{d: closed}, func(t *api.Times, n int) { t.Amber = n }},
	{1, 2, handed{d: urgent, b: up, obstacle: true}, func(t *api.Times, n int) { t.Amber = n }},
	{2, 3, handed{d: closed}, func(t *api.Times, n int) { t.Red = n }},
	{2, 3, handed{d: urgent, b: down, obstacle: true}, func(t *api.Times, n int) { t.Red = n }},
	{3, 4, handed{d: closed}, func(t *api.Times, n int) { t.Entry = n }},
	{3, 4, handed{d: urgent, b: down}, func(t *api.Times, n int) { t.Entry = n }},
	{3, 4, handed{d: closed, obstacle: true}, func(t *api.Times, n int) { t.Entry, t.Override = n/2, n-n/2 }},
	{3, 4, handed{d: urgent, b: up, obstacle: true}, func(t *api.Times, n int) { t.Entry, t.Override = 1, n-1 }},
	{3, 4, handed{d: closed, b: down, obstacle: true}, func(t *api.Times, n int) { t.Entry, t.Override = n-1, 1 }},
}

// P21.2: each time alone, to the very tick, those where timers go from one level of their wheel to the next too, however many ticks went by ahead of it.
func TestEachTime(t *testing.T) {
	for _, x := range timeds {
		for _, n := range []int{2, 3, 4, 5, 31, 32, 33, 62, 63, 64, 65, 66, 127, 128, 129, 640, 4031, 4032, 4033, 4095, 4096, 4097, 4160, 5999, 6000} {
			for _, ahead := range []int{0, 1, 61, 62, 63, 64, 65} {
				all := times[5]
				x.set(&all, n)
				m := road.New(all, 2)
				for range ahead {
					m.Step(none, up, false)
				}
				m.Enter(x.phase)
				for k := 1; k < n; k++ {
					if got := m.Step(x.h.d, x.h.b, x.h.obstacle); got != (api.Road{Phase: x.phase, Since: k + 1}) {
						t.Fatalf("phase %d, time %d, tick %d: %+v", x.phase, n, k, got)
					}
				}
				told(t, m, x.h, first(x.to))
			}
		}
	}
}

// P21.2: Entry and Override together, over an obstacle, up to the longest that they may be.
func TestTogether(t *testing.T) {
	lengths := []int{1, 2, 63, 64, 65, 2048, 4095, 4096, 5999, 6000}
	for _, entry := range lengths {
		for _, override := range lengths {
			x := mild
			x.Entry, x.Override = entry, override
			m := road.New(x, 2)
			m.Enter(api.PhaseEntry)
			for k := 1; k < entry+override; k++ {
				if got := m.Step(closed, half, true); got != (api.Road{Phase: 3, Since: k + 1}) {
					t.Fatalf("Entry %d, Override %d, tick %d: %+v", entry, override, k, got)
				}
			}
			told(t, m, handed{closed, half, true}, first(4))
		}
	}
}

// P21.2: times of 1.
func TestTimesOfOne(t *testing.T) {
	m := road.New(times[0], 2)
	for range 3 {
		told(t, m, handed{closed, up, true}, first(1))
		told(t, m, handed{closed, up, true}, first(2))
		told(t, m, handed{closed, up, true}, first(3))
		told(t, m, handed{closed, up, true}, api.Road{Phase: 3, Since: 2})
		told(t, m, handed{closed, up, true}, first(4))
		told(t, m, handed{closed, down, true}, first(5))
		told(t, m, handed{none, down, true}, first(6))
		told(t, m, handed{none, up, true}, first(0))
		told(t, m, handed{closed, up, false}, first(1))
		told(t, m, handed{closed, up, false}, first(2))
		told(t, m, handed{closed, up, false}, first(3))
		told(t, m, handed{closed, up, false}, first(4))
		told(t, m, handed{none, up, false}, first(6))
		told(t, m, handed{none, up, false}, first(0))
	}
}

// P21.2: Entry and Override of each length, with the obstacle there, or not, at each of the ticks.
func TestObstacle(t *testing.T) {
	for entry := 1; entry <= 4; entry++ {
		for override := 1; override <= 4; override++ {
			for there := range 1 << (entry + override) {
				x := mild
				x.Entry, x.Override = entry, override
				m := road.New(x, 2)
				m.Enter(api.PhaseEntry)
				for k := 1; k <= entry+override; k++ {
					obstacle := there>>(k-1)&1 > 0
					if k >= entry && (!obstacle || k == entry+override) {
						told(t, m, handed{closed, half, obstacle}, first(4))
						break
					}
					told(t, m, handed{closed, half, obstacle}, api.Road{Phase: 3, Since: k + 1})
				}
			}
		}
	}
}

// rests is what keeps a machine in a phase, as far as that may be.
var rests = [8]handed{{none, up, false}, {closed, up, true}, {closed, up, true}, {closed, half, true}, {closed, half, true}, {closed, down, false}, {none, half, false}, {closed, down, false}}

// P21.2: from each phase on, with all that a Step may be handed, below, at and above each of its times, and steps behind that.
func TestEveryHanded(t *testing.T) {
	list := everyHanded()
	d := dice(2)
	for _, x := range times[:4] {
		for _, from := range phases {
			for _, ticks := range []int{0, 1, 2, 3, 4, 5, 6, 7, 8} {
				for _, h := range list {
					p := start(t, x, 2)
					p.enter(from)
					for range ticks {
						p.step(rests[from])
					}
					p.step(h)
					r := d.row()
					for range 6 {
						p.step(r.next())
					}
				}
			}
		}
	}
}

// around are the numbers beside n, and n.
func around(n int) []int {
	return []int{n - 1, n, n + 1}
}

// P21.2: long times, with all that a Step may be handed just below, at and above each of them.
func TestEveryHandedLate(t *testing.T) {
	list := everyHanded()
	for _, x := range []api.Times{times[4], {Amber: 63, Red: 64, Entry: 65, Travel: 1, Prove: 1, Open: 128, Override: 127, Fresh: 1, Approach: 1, Warn: 1}} {
		for from, at := range [][]int{around(x.Open), around(x.Amber), around(x.Red), append(around(x.Entry), around(x.Entry+x.Override)...)} {
			for _, since := range at {
				for _, h := range list {
					p := start(t, x, 2)
					p.enter(from)
					for range since - 1 {
						p.m.Step(rests[from].d, rests[from].b, rests[from].obstacle)
					}
					p.r = p.m.Now()
					p.step(h)
				}
			}
		}
	}
}

// way is a phase ahead of a step, and behind it.
type way struct{ from, to int }

// ways are all that a machine with enough timers goes.
var ways = []way{{0, 0}, {0, 1}, {1, 1}, {1, 2}, {1, 6}, {2, 2}, {2, 3}, {2, 6}, {3, 3}, {3, 4}, {3, 6}, {4, 4}, {4, 5}, {4, 6}, {5, 5}, {5, 6}, {6, 6}, {6, 0}, {6, 1}}

// often tells whether each way was gone so often.
func often(t *testing.T, seen map[way]int, n int) {
	t.Helper()
	for _, w := range ways {
		if seen[w] < n {
			t.Errorf("dice that throw too little: %+v: %d", w, seen[w])
		}
	}
}

// P21.2, P21.4: rows by dice, of small times: what phase tells, tick by tick.
func TestRows(t *testing.T) {
	d := dice(3)
	seen := map[way]int{}
	for i := range 1500 {
		p := start(t, d.smallTimes(), enough[i%len(enough)])
		r := d.row()
		for range 300 {
			from := p.r.Phase
			seen[way{from, p.step(r.next()).Phase}]++
		}
		if p.r.Phase == api.PhaseFailed {
			t.Fatal("a machine with timers enough failed")
		}
	}
	often(t, seen, 500)
}

// P21.2, P21.4: rows by dice of all that may be handed in, of which no tick is like the one ahead.
func TestWildRows(t *testing.T) {
	d := dice(4)
	seen := map[way]int{}
	for i := range 1500 {
		x := d.smallTimes()
		x.Entry = 1 + d.below(3)
		p := start(t, x, enough[i%len(enough)])
		keen := d.rarely(2)
		for range 200 {
			from := p.r.Phase
			h := d.thrown()
			if keen && !d.rarely(8) {
				h.d = urgent
			}
			seen[way{from, p.step(h).Phase}]++
		}
	}
	often(t, seen, 500)
}

// P21.2: rows by dice of times of any length, from phases on that are entered.
func TestLongTimes(t *testing.T) {
	d := dice(5)
	seen := map[way]int{}
	for i := range 60 {
		p := start(t, d.anyTimes(), enough[i%len(enough)])
		r := d.row()
		r.calm, r.stands, r.moves = 1000+d.below(6000), 100+d.below(3000), 1+d.below(60)
		for range 20000 {
			from := p.r.Phase
			seen[way{from, p.step(r.next()).Phase}]++
		}
	}
	often(t, seen, 3)
}

// P21.2: many more ticks in one phase than any of its times, and what comes behind them.
func TestLongRows(t *testing.T) {
	for _, x := range []struct {
		phase int
		h     handed
		end   handed
		to    int
	}{
		{0, handed{none, up, false}, handed{closed, up, false}, 1},
		{0, handed{none, down, true}, handed{hasty, up, false}, 1},
		{4, handed{closed, half, false}, handed{closed, down, false}, 5},
		{4, handed{urgent, api.Barrier{ExitDown: true}, true}, handed{none, down, true}, 6},
		{5, handed{closed, down, false}, handed{none, down, false}, 6},
		{6, handed{none, half, false}, handed{closed, up, false}, 0},
		{6, handed{closed, down, false}, handed{urgent, up, false}, 1},
	} {
		for _, all := range []api.Times{times[0], mild, times[5]} {
			m := road.New(all, 2)
			m.Enter(x.phase)
			const long = 1<<18 + 5
			for k := 1; k < long; k++ {
				if got := m.Step(x.h.d, x.h.b, x.h.obstacle); got != (api.Road{Phase: x.phase, Since: k + 1}) {
					t.Fatalf("phase %d, tick %d: %+v", x.phase, k, got)
				}
			}
			told(t, m, x.end, first(x.to))
			for range 20 {
				m.Step(closed, up, false)
			}
			other := road.New(all, 2)
			other.Enter(x.to)
			for range 20 {
				other.Step(closed, up, false)
			}
			now(t, m, other.Now())
		}
	}
}

// P21.2: as long as the road is to be open its time goes by, and is over from then on: it closes at once.
func TestOpenIsOver(t *testing.T) {
	x := mild
	for open := 1; open < 70; open++ {
		x.Open = open
		for quiet := range 140 {
			m := road.New(x, 1)
			for k := range quiet {
				told(t, m, handed{none, up, false}, api.Road{Phase: 0, Since: k + 2})
			}
			for k := quiet; k < open-1; k++ {
				told(t, m, handed{closed, up, false}, api.Road{Phase: 0, Since: k + 2})
			}
			told(t, m, handed{closed, up, false}, first(1))
		}
	}
}

// P21.2: with one timer a machine fails when PhaseEntry would begin.
func TestPoolOfOne(t *testing.T) {
	for _, obstacle := range []bool{false, true} {
		m := road.New(mild, 1)
		for i, want := range []api.Road{{Phase: 0, Since: 2}, {Phase: 0, Since: 3}, {Phase: 0, Since: 4}, {Phase: 1, Since: 1}, {Phase: 1, Since: 2}, {Phase: 2, Since: 1}, {Phase: 2, Since: 2}, {Phase: 2, Since: 3}, {Phase: 7, Since: 1}, {Phase: 7, Since: 2}, {Phase: 7, Since: 3}} {
			if got := m.Step(closed, up, obstacle); got != want {
				t.Fatalf("tick %d: %+v, not %+v", i, got, want)
			}
			now(t, m, want)
		}
	}
}

// P21.2: of pools of one and none rows by dice, in which what failed is entered again at times.
func TestTooFewTimers(t *testing.T) {
	d := dice(6)
	failed := 0
	for i := range 2000 {
		p := start(t, d.smallTimes(), []int{1, 1, 1, 0, -1, least}[i%6])
		r := d.row()
		for range 150 {
			ahead := p.r.Phase
			if p.step(r.next()).Phase == 7 && ahead != 7 {
				failed++
			}
			if p.r.Phase == 7 && d.rarely(10) {
				p.enter(d.below(8))
			}
		}
	}
	if failed < 500 {
		t.Errorf("dice that throw too little: %d failed", failed)
	}
}

// P21.2: with no timer a machine failed from the beginning on; what failed goes on as such, whatever is handed in.
func TestFailedGoesOn(t *testing.T) {
	list := everyHanded()
	d := dice(7)
	for _, x := range times {
		fails := map[string]*road.Machine{
			"no timer":  road.New(x, 0),
			"below 0":   road.New(x, least),
			"one timer": road.New(x, 1),
			"failed":    road.New(x, 2),
			"entered":   road.New(x, 64),
			"no phase":  road.New(x, 2),
		}
		fails["one timer"].Enter(api.PhaseEntry)
		fails["failed"].Fail()
		fails["entered"].Enter(api.PhaseFailed)
		fails["no phase"].Enter(8)
		for name, m := range fails {
			now(t, m, first(7))
			for i, h := range list {
				if got := m.Step(h.d, h.b, h.obstacle); got != (api.Road{Phase: 7, Since: i + 2}) {
					t.Fatalf("%s, tick %d: %+v", name, i, got)
				}
			}
			for i := range 15000 {
				h := d.thrown()
				if got := m.Step(h.d, h.b, h.obstacle); got != (api.Road{Phase: 7, Since: len(list) + i + 2}) {
					t.Fatalf("%s, tick %d: %+v", name, i, got)
				}
			}
			now(t, m, api.Road{Phase: 7, Since: len(list) + 15001})
		}
	}
}

// through steps with h till the machine is in a phase, and fails if that takes too long.
func through(t *testing.T, m *road.Machine, h handed, to int) {
	t.Helper()
	for range 30 {
		if m.Step(h.d, h.b, h.obstacle).Phase == to {
			now(t, m, first(to))
			return
		}
	}
	t.Fatalf("not in phase %d, but %+v", to, m.Now())
}

// P21.2: no timer is kept by a phase that was left: all phases, over and over, with just two.
func TestNoTimerKept(t *testing.T) {
	for _, obstacle := range []bool{false, true} {
		m := road.New(mild, 2)
		for range 500 {
			for to := 1; to <= 4; to++ {
				through(t, m, handed{closed, half, obstacle}, to)
			}
			through(t, m, handed{closed, down, obstacle}, 5)
			through(t, m, handed{none, down, obstacle}, 6)
			through(t, m, handed{none, up, obstacle}, 0)
		}
	}
}

// P21.2: no timer is kept by a phase that was left ahead of its time, at each tick of it.
func TestNoTimerKeptEarly(t *testing.T) {
	x := mild
	x.Entry, x.Override = 4, 5
	for from := 1; from <= 3; from++ {
		for ticks := range 9 {
			m := road.New(x, 2)
			for range 200 {
				through(t, m, handed{urgent, half, true}, 1)
				for to := 2; to <= from; to++ {
					through(t, m, handed{closed, half, true}, to)
				}
				for range ticks {
					m.Step(closed, half, true)
				}
				told(t, m, handed{none, half, true}, first(6))
				through(t, m, handed{none, up, true}, 0)
			}
		}
	}
}

// P21.2: no timer is kept of an open road that is closed at once, ahead of its time.
func TestNoTimerKeptOfOpen(t *testing.T) {
	x := times[4]
	m := road.New(x, 1)
	for range 500 {
		told(t, m, handed{urgent, up, false}, first(1))
		told(t, m, handed{none, up, false}, first(6))
		told(t, m, handed{none, up, false}, first(0))
		told(t, m, handed{none, up, false}, api.Road{Phase: 0, Since: 2})
	}
}

// P21.2: with just one timer PhaseOpen, Amber, Red, Raise, and again.
func TestOneTimerAgain(t *testing.T) {
	for _, x := range times[:4] {
		p := start(t, x, 1)
		for range 200 {
			for p.r.Phase != 2 {
				p.step(handed{closed, up, false})
			}
			p.step(handed{none, up, false})
			if p.r != first(6) {
				t.Fatal(p.r)
			}
			p.step(handed{none, up, false})
			if p.r != first(0) {
				t.Fatal(p.r)
			}
		}
	}
}

// P21.2: a timer of a phase that was left tells nothing of another one, nor of the same one when it comes again.
func TestNoTimerTellsLate(t *testing.T) {
	x := times[0]
	x.Amber, x.Red, x.Open = 9, 9, 9
	for left := 1; left < 9; left++ {
		m := road.New(x, 2)
		told(t, m, handed{urgent, up, false}, first(1))
		for k := 1; k < left; k++ {
			told(t, m, handed{closed, up, false}, api.Road{Phase: 1, Since: k + 1})
		}
		told(t, m, handed{none, up, false}, first(6))
		told(t, m, handed{urgent, up, false}, first(1))
		for k := 1; k < 9; k++ {
			told(t, m, handed{closed, up, false}, api.Road{Phase: 1, Since: k + 1})
		}
		told(t, m, handed{closed, up, false}, first(2))
		for k := 1; k < 9; k++ {
			told(t, m, handed{closed, up, false}, api.Road{Phase: 2, Since: k + 1})
		}
		told(t, m, handed{none, up, false}, first(6))
		told(t, m, handed{none, up, false}, first(0))
		for k := 1; k < 9; k++ {
			told(t, m, handed{closed, up, false}, api.Road{Phase: 0, Since: k + 1})
		}
		told(t, m, handed{closed, up, false}, first(1))
	}
}

// P21.3: each phase, and what is none, behind each other one, at once and some ticks later; its steps are those of another machine that entered it.
func TestEnter(t *testing.T) {
	d := dice(8)
	for _, pool := range []int{0, 1, 2, 64} {
		for _, x := range times[:4] {
			for _, behind := range phases {
				for _, ticks := range []int{0, 1, 2, 3, 5, 9} {
					for _, to := range append(noPhases(), phases...) {
						want := first(7)
						if to >= 0 && to <= 7 {
							want = begun(first(to), pool)
						}
						m, other := road.New(x, pool), road.New(x, pool)
						m.Enter(behind)
						for range ticks {
							m.Step(rests[behind].d, rests[behind].b, rests[behind].obstacle)
						}
						if got := m.Enter(to); got != want {
							t.Fatalf("Enter(%d) behind %d with a pool of %d: %+v, not %+v", to, behind, pool, got, want)
						}
						now(t, m, want)
						if got := other.Enter(to); got != want {
							t.Fatalf("Enter(%d) with a pool of %d: %+v, not %+v", to, pool, got, want)
						}
						r := d.row()
						for range 12 {
							h := r.next()
							told(t, m, h, other.Step(h.d, h.b, h.obstacle))
						}
					}
				}
			}
		}
	}
}

// P21.3: the same phase entered again, at each tick of its time, begins anew.
func TestEnterAgain(t *testing.T) {
	for _, x := range timeds {
		for _, n := range []int{2, 3, 9, 70} {
			all := times[5]
			x.set(&all, n)
			for ticks := range n {
				m := road.New(all, needs[x.phase])
				for range 3 {
					if got := m.Enter(x.phase); got != first(x.phase) {
						t.Fatalf("Enter(%d) again behind %d ticks: %+v", x.phase, ticks, got)
					}
					now(t, m, first(x.phase))
					for k := range ticks {
						told(t, m, x.h, api.Road{Phase: x.phase, Since: k + 2})
					}
				}
				m.Enter(x.phase)
				for k := 1; k < n; k++ {
					told(t, m, x.h, api.Road{Phase: x.phase, Since: k + 1})
				}
				// Behind PhaseRed that pool has too few.
				told(t, m, x.h, begun(first(x.to), needs[x.phase]))
			}
		}
	}
}

// P21.3: an open road whose time is over, and barriers behind Entry over an obstacle, begin anew too.
func TestEnterAgainBehindItsTime(t *testing.T) {
	x := mild
	for ticks := range 20 {
		m := road.New(x, 2)
		for range ticks {
			m.Step(none, up, false)
		}
		m.Enter(api.PhaseOpen)
		for k := 1; k < x.Open; k++ {
			told(t, m, handed{closed, up, false}, api.Road{Phase: 0, Since: k + 1})
		}
		told(t, m, handed{closed, up, false}, first(1))
	}
	for ticks := range x.Entry + x.Override {
		m := road.New(x, 2)
		m.Enter(api.PhaseEntry)
		for k := range ticks {
			told(t, m, handed{closed, half, true}, api.Road{Phase: 3, Since: k + 2})
		}
		m.Enter(api.PhaseEntry)
		for k := 1; k < x.Entry; k++ {
			told(t, m, handed{closed, half, false}, api.Road{Phase: 3, Since: k + 1})
		}
		told(t, m, handed{closed, half, false}, first(4))
	}
}

// P21.3: no timer is kept by what was ahead of Enter, or of Fail, however often.
func TestEnterKeepsNoTimer(t *testing.T) {
	d := dice(9)
	for _, pool := range []int{0, 1, 2, 3, 64} {
		p := start(t, times[4], pool)
		for range 5000 {
			switch d.below(8) {
			case 0:
				p.fail()
			case 1, 2:
				p.step(d.thrown())
			default:
				p.enter(d.below(8))
			}
		}
	}
}

// P21.3: Fail behind each phase, at once and some ticks later, and its steps behind it.
func TestFail(t *testing.T) {
	d := dice(10)
	for _, pool := range []int{1, 2, 3, 64} {
		for _, x := range times {
			for _, behind := range phases[:7] {
				for ticks := range 8 {
					m := road.New(x, pool)
					m.Enter(behind)
					for range ticks {
						m.Step(rests[behind].d, rests[behind].b, rests[behind].obstacle)
					}
					if m.Now().Phase == 7 {
						continue
					}
					if got := m.Fail(); got != first(7) {
						t.Fatalf("Fail behind %d: %+v", behind, got)
					}
					now(t, m, first(7))
					for k := range 30 {
						told(t, m, d.thrown(), api.Road{Phase: 7, Since: k + 2})
					}
				}
			}
		}
	}
}

// P21.3: Fail of one that failed already, however that came.
func TestFailOfFailed(t *testing.T) {
	for name, fails := range map[string]func() *road.Machine{
		"no timer":  func() *road.Machine { return road.New(mild, 0) },
		"below 0":   func() *road.Machine { return road.New(mild, -5) },
		"one timer": func() *road.Machine { m := road.New(mild, 1); m.Enter(api.PhaseEntry); return m },
		"stepped":   func() *road.Machine { m := road.New(mild, 1); through(t, m, handed{closed, up, false}, 7); return m },
		"failed":    func() *road.Machine { m := road.New(mild, 2); m.Fail(); return m },
		"entered":   func() *road.Machine { m := road.New(mild, 64); m.Enter(api.PhaseFailed); return m },
		"no phase":  func() *road.Machine { m := road.New(mild, 2); m.Enter(-1); return m },
	} {
		for _, ticks := range []int{0, 1, 2, 3, 10, 700} {
			m := fails()
			for range ticks {
				m.Step(closed, down, false)
			}
			for range 3 {
				if got := m.Fail(); got != (api.Road{Phase: 7, Since: ticks + 1}) {
					t.Fatalf("%s, Fail behind %d ticks: %+v", name, ticks, got)
				}
				now(t, m, api.Road{Phase: 7, Since: ticks + 1})
			}
			told(t, m, handed{none, up, false}, api.Road{Phase: 7, Since: ticks + 2})
			// Entered it begins anew, unlike failed.
			if got := m.Enter(api.PhaseFailed); got != first(7) {
				t.Fatalf("%s, PhaseFailed entered: %+v", name, got)
			}
			now(t, m, first(7))
		}
	}
}

// P21.3: what failed is entered again, and goes on as if it never had.
func TestEnterBehindFail(t *testing.T) {
	d := dice(11)
	for _, pool := range []int{0, 1, 2, 64} {
		for _, to := range phases {
			for ticks := range 12 {
				x := d.smallTimes()
				m, other := road.New(x, pool), road.New(x, pool)
				m.Enter(d.below(8))
				m.Step(closed, half, true)
				m.Fail()
				for range ticks {
					m.Step(closed, half, true)
				}
				want := begun(first(to), pool)
				if got := m.Enter(to); got != want {
					t.Fatalf("Enter(%d) behind Fail with a pool of %d: %+v", to, pool, got)
				}
				other.Enter(to)
				r := d.row()
				for range 60 {
					h := r.next()
					told(t, m, h, other.Step(h.d, h.b, h.obstacle))
				}
			}
		}
	}
}

// P21.2, P21.3: all calls by dice.
func TestDice(t *testing.T) {
	d := dice(12)
	for i := range 1200 {
		p := start(t, d.smallTimes(), []int{2, 1, 3, 2, 64, 0, 2, 65}[i%8])
		r := d.row()
		for range 200 {
			switch {
			case d.rarely(60):
				p.fail()
			case d.rarely(25), p.r.Phase == 7 && d.rarely(4):
				p.enter(d.below(9))
			default:
				p.step(r.next())
			}
		}
	}
}

// P21.4: what failed stays so, whatever comes, till a phase is entered.
func TestFailedStays(t *testing.T) {
	d := dice(13)
	for _, pool := range []int{0, 1, 2} {
		m := road.New(mild, pool)
		m.Enter(api.PhaseEntry)
		m.Fail()
		since := 1
		for range 5000 {
			want := api.Road{Phase: 7, Since: since}
			if d.rarely(5) {
				if got := m.Fail(); got != want {
					t.Fatalf("Fail: %+v, not %+v", got, want)
				}
			}
			since++
			want.Since++
			told(t, m, d.thrown(), want)
		}
		if got := m.Enter(api.PhaseRaise); got != first(6) {
			t.Fatal(got)
		}
		told(t, m, handed{none, up, false}, begun(first(0), pool))
	}
}

// W2: two machines do not touch each other: called in turn they answer what each answers alone, and so do others that are told the same.
func TestApart(t *testing.T) {
	d := dice(14)
	type call struct {
		kind, to int
		handed
		want api.Road
	}
	calls := func(m *road.Machine, c call) api.Road {
		switch c.kind {
		case 0:
			return m.Fail()
		case 1:
			return m.Enter(c.to)
		}
		return m.Step(c.d, c.b, c.obstacle)
	}
	for range 100 {
		var list [2][]call
		all := [2]api.Times{d.smallTimes(), d.smallTimes()}
		pools := [2]int{2, d.below(4)}
		for k := range 2 {
			m := road.New(all[k], pools[k])
			r := d.row()
			for range 200 {
				c := call{kind: d.below(30), to: d.below(8), handed: r.next()}
				c.want = calls(m, c)
				list[k] = append(list[k], c)
			}
		}
		for range 2 {
			machines := [2]*road.Machine{road.New(all[0], pools[0]), road.New(all[1], pools[1])}
			same := [2]*road.Machine{road.New(all[0], pools[0]), road.New(all[1], pools[1])}
			for i := range list[0] {
				for k, m := range machines {
					c := list[k][i]
					got, also := calls(m, c), calls(same[k], c)
					if got != also {
						t.Fatalf("two that are told the same: %+v and %+v", got, also)
					}
					if got != c.want {
						t.Fatalf("machine %d, call %d: %+v, not %+v", k, i, got, c.want)
					}
				}
			}
		}
	}
}

// W6: times that are changed behind New are not the machine's, and no call changes what it is handed.
func TestHandedIn(t *testing.T) {
	x := mild
	m := road.New(x, 2)
	if x != mild {
		t.Errorf("times: %+v", x)
	}
	x.Open, x.Amber = 1, 1
	told(t, m, handed{closed, up, false}, api.Road{Phase: 0, Since: 2})
	b, d := half, urgent
	m.Step(d, b, true)
	if b != half || d != urgent {
		t.Errorf("handed in: %+v, %+v", b, d)
	}
	told(t, m, handed{closed, up, false}, api.Road{Phase: 1, Since: 2})
	told(t, m, handed{closed, up, false}, first(2))
	r := m.Now()
	r.Phase, r.Since = 5, 99
	now(t, m, first(2))
}

// W1: no call panics of times that config does not take: what is told is what phase tells, or the machine failed.
func TestOtherTimes(t *testing.T) {
	d := dice(15)
	list := []int{least, least + 1, -1 << 62, -1 << 24, -6000, -5, -1, 0, 1, 2, 3, 6000, 6001, 1<<24 - 2, 1<<24 - 1, 1 << 24, 1<<24 + 1, 1 << 30, 1 << 32, 1 << 62, most - 1, most}
	of := func() int { return list[d.below(len(list))] }
	for i := range 4000 {
		x := api.Times{Amber: 1 + d.below(2), Red: 1 + d.below(2), Entry: of(), Travel: of(), Prove: of(), Open: 1, Override: of(), Fresh: of(), Approach: of(), Warn: of()}
		if i%2 > 0 {
			x.Amber, x.Red, x.Open = of(), of(), of()
		}
		m := road.New(x, []int{2, 2, 2, 64, 1, 0}[d.below(6)])
		r := d.row()
		for k := range 40 {
			if k%10 == 0 {
				m.Enter(d.below(8))
			}
			h := r.next()
			want := phase.Step(x, m.Now(), h.d, h.b, h.obstacle)
			if got := m.Step(h.d, h.b, h.obstacle); got != want && got != first(7) {
				t.Fatalf("%+v: %+v, not %+v", x, got, want)
			}
		}
		m.Fail()
	}
}

// W1: no call of a nil machine panics.
func TestNil(t *testing.T) {
	var m *road.Machine
	for range 2 {
		for _, h := range everyHanded() {
			m.Step(h.d, h.b, h.obstacle)
		}
		m.Now()
		for _, p := range append(noPhases(), phases...) {
			m.Enter(p)
		}
		m.Fail()
	}
}
