package control_test

import (
	"bytes"
	"reflect"
	"slices"
	"testing"

	"crossbuck/api"
	"crossbuck/control"
	"crossbuck/crc"
	"crossbuck/delay"
	"crossbuck/demand"
	"crossbuck/fault"
	"crossbuck/inputs"
	"crossbuck/journal"
	"crossbuck/lock"
	"crossbuck/phase"
	"crossbuck/policy"
	"crossbuck/prove"
	"crossbuck/record"
	"crossbuck/sensor"
	"crossbuck/store"
	"crossbuck/track"
)

const (
	least  = api.MinInt
	most   = api.MaxInt
	end    = api.MaxTick
	enough = 2 // timers of a pool that lacks none
)

// short are times of which each is another one: a signal is locked for 11 ticks.
var short = api.Times{Amber: 2, Red: 3, Entry: 2, Travel: 4, Prove: 3, Open: 4, Override: 5, Fresh: 3, Approach: 6, Warn: 2}

// hold is for how many ticks a signal is locked with the times short.
const hold = 11

// waits are the delays of the lines of crossing, by class, reckoned by hand.
var waits = [8][3]int{{8, 3, 0}, {1, 4, 8}, {18, 0, 2}, {0, 0, 0}, {5, 6, 7}, {2, 0, 9}, {0, 3, 0}, {7, 1, 1}}

// crossing is one of n lines, with the times short.
func crossing(n int) api.Config {
	lines := []api.Line{
		{Strike: 100, Signal: 50, Speeds: [3]int{10, 20, 50}},
		{Strike: 90, Signal: 10, Speeds: [3]int{30, 15, 9}},
		{Strike: 20, Signal: 1, Speeds: [3]int{1, 10, 5}},
		{Strike: 2, Signal: 1, Speeds: [3]int{1, 2, 5000}},
		{Strike: 504, Signal: 503, Speeds: [3]int{72, 63, 56}},
		{Strike: 110, Signal: 1, Speeds: [3]int{27, 100, 10}},
		{Strike: 55, Signal: 9, Speeds: [3]int{5000, 11, 28}},
		{Strike: 90, Signal: 10, Speeds: [3]int{10, 30, 24}},
	}
	return api.Config{Lines: lines[:n:n], Times: short}
}

// up, down and the like are where the barriers are.
var (
	up      = api.Barrier{EntryUp: true, ExitUp: true}
	down    = api.Barrier{EntryDown: true, ExitDown: true}
	half    = api.Barrier{EntryDown: true, ExitUp: true}
	between = api.Barrier{}
)

// calm is an outer world of n tracks in which nothing is wrong, nothing comes, and the barriers are up.
func calm(n int) api.Inputs {
	return api.Inputs{Barrier: up, Lamps: true, Mains: true, Battery: true, Tracks: slices.Repeat([]api.Counts{{Fresh: true}}, n)}
}

// channels are those of which telegrams tell something of n tracks.
func channels(n int) []int {
	list := []int{api.ChanBarrier, api.ChanLamps, api.ChanObstacle, api.ChanMode, api.ChanPower, api.ChanRoutes}
	for place := range n {
		list = append(list, api.ChanTrack+place)
	}
	return list
}

// sealed are the bytes of a telegram, laid by hand.
func sealed(ch, seq int, data []byte) []byte {
	return crc.Seal(append([]byte{byte(ch), byte(seq), byte(len(data))}, data...))
}

// A model does what the document says of each Step, by what the layers tell, beside the controller that is held against it. For the machine it takes phase's Step, and the timers that each phase needs.
type model struct {
	c      api.Config
	timers int
	now    uint64
	x      *inputs.Inputs
	j      *journal.Journal
	row    []byte // of the record that there is; none, if there is none
	r      api.Road
	tracks []api.Track
	locks  []api.Lock
	proved int
	dead   bool
	lit    int // the signals of the Step ahead
	faulty int // the faults behind the Step ahead
	in     api.Inputs
	events []api.Event
}

// needs are the timers that each phase needs.
var needs = [8]int{1, 1, 1, 2, 0, 0, 0, 0}

func begun(c api.Config, s *store.Store, start uint64, pool int) *model {
	m := &model{c: c, timers: min(max(pool, 0), 64), now: start, x: inputs.New(len(c.Lines), c.Times.Fresh), j: journal.Open(s)}
	m.c.Lines = slices.Clone(c.Lines)
	row, _ := m.j.Last()
	rec, had := record.Parse(row)
	if had {
		m.row = row
	}
	m.r, m.tracks = policy.Restart(rec, had, len(c.Lines))
	m.r = m.armed(m.r)
	for range c.Lines {
		m.locks = append(m.locks, api.Lock{Hold: c.Times.Approach + c.Times.Fresh + 2})
	}
	return m
}

// armed is r, the beginning of a phase, or what comes of it without the timers that it needs.
func (m *model) armed(r api.Road) api.Road {
	if needs[r.Phase] > m.timers {
		return api.Road{Phase: api.PhaseFailed, Since: 1}
	}
	return r
}

// stop is what is told of one that is dead.
var stop = api.Outputs{Lights: api.Lights{Red: true, Bell: true, EntryDown: true, ExitDown: true}, Dead: true}

func (m *model) step(telegrams [][]byte) api.Outputs {
	if m.dead {
		return stop
	}
	over := m.now == end
	if !over {
		m.now++
	}
	m.x.Tick()
	for _, b := range telegrams {
		m.x.Take(b)
	}
	m.in = m.x.Now()
	for i := range m.tracks {
		m.tracks[i] = track.Step(m.tracks[i], m.in.Tracks[i], delay.Of(m.c.Lines[i], m.c.Times.Warn), m.in.Mode == 2)
	}
	ahead := m.r.Phase
	m.goOn(over)
	signals := policy.Signals(m.in, m.tracks, m.r, prove.Proved(m.proved, m.c.Times.Prove))
	row := record.Print(record.Of(m.r, m.tracks))
	if !bytes.Equal(row, m.row) {
		if err := m.j.Append(row); err != nil {
			m.dead = true
			m.add(4, int(fault.Code(err)))
			return stop
		}
		m.row = row
	}
	for i := range m.locks {
		m.locks[i] = lock.Step(m.locks[i], signals&(1<<i) > 0, lock.Hold(m.c.Times))
	}
	m.tell(ahead, signals)
	return api.Outputs{Signals: signals, Lights: phase.Lights(m.r), Failed: m.r.Phase == 7}
}

// goOn is the demand, Proved and the machine.
func (m *model) goOn(over bool) {
	d := demand.Of(m.in, m.tracks, lock.Any(m.locks), m.r.Phase == 0)
	sure := m.in.Barrier
	if !m.in.Sure {
		sure = between
	}
	m.proved = prove.Step(m.proved, sure, m.c.Times.Prove)
	next := phase.Step(m.c.Times, m.r, d, m.in.Barrier, m.in.Obstacle)
	if next.Phase != m.r.Phase {
		next = m.armed(next)
	}
	if over && next.Phase != 7 {
		next = api.Road{Phase: 7, Since: 1}
	}
	m.r = next
}

// tell tells the events of a Step that did not die.
func (m *model) tell(ahead, signals int) {
	faulty := 0
	for i, x := range m.tracks {
		if x.Fault {
			faulty += 1 << i
		}
	}
	if m.r.Phase != ahead {
		m.add(1, m.r.Phase)
	}
	if signals != m.lit {
		m.add(2, signals)
	}
	if faulty != m.faulty {
		m.add(3, faulty)
	}
	m.lit, m.faulty = signals, faulty
}

func (m *model) add(code, arg int) {
	m.events = append(m.events, api.Event{At: m.now, Code: code, Arg: arg})
}

func (m *model) state() api.State {
	return api.State{Now: m.now, Road: m.r, Tracks: m.tracks, Locks: m.locks, Proved: m.proved, Dead: m.dead}
}

// A rig is a controller, and beside it the model, over a store of the same bytes; and the outer world, of which telegrams tell.
type rig struct {
	t       *testing.T
	c       api.Config
	k       *control.Control
	m       *model
	s, twin *store.Store
	world   api.Inputs
	g       gates
	seq     [16]int
	mute    [16]bool // channels of which no telegram comes
}

// bytesOf are all bytes of a store.
func bytesOf(s *store.Store) []byte {
	return s.Read(0, s.Size())
}

// written is a store of these bytes.
func written(t *testing.T, b []byte) *store.Store {
	t.Helper()
	s := store.New(len(b))
	if err := s.Write(0, b); err != nil {
		t.Fatal(err)
	}
	return s
}

// kept is a store of so many bytes, with a journal of these rows.
func kept(t *testing.T, size int, rows ...[]byte) *store.Store {
	t.Helper()
	s := store.New(size)
	j := journal.Open(s)
	for _, row := range rows {
		if err := j.Append(row); err != nil {
			t.Fatal(err)
		}
	}
	return s
}

// over is a rig over a store of b.
func over(t *testing.T, c api.Config, b []byte, start uint64, pool int) *rig {
	t.Helper()
	r := &rig{t: t, c: c, s: written(t, b), twin: written(t, b), world: calm(len(c.Lines)), g: gates{travel: c.Times.Travel}}
	r.begin(start, pool)
	return r
}

// blank is a rig over a blank store.
func blank(t *testing.T, c api.Config) *rig {
	t.Helper()
	return over(t, c, bytesOf(store.New(200)), 0, enough)
}

// from is a rig that begins in a phase, with these tracks wrong and jumped.
func from(t *testing.T, c api.Config, phase, wrong, jump int) *rig {
	t.Helper()
	return over(t, c, bytesOf(kept(t, 200, []byte{byte(phase), byte(wrong), byte(jump)})), 0, enough)
}

// begin begins anew over the same store.
func (r *rig) begin(start uint64, pool int) {
	r.t.Helper()
	k, err := control.New(r.c, r.s, start, pool)
	if err != nil || k == nil {
		r.t.Fatalf("New: %v, %v", k, err)
	}
	r.k, r.m = k, begun(r.c, r.twin, start, pool)
	r.holds("New")
}

// kill lets the store die behind so many bytes.
func (r *rig) kill(after int) {
	r.s.Kill(after)
	r.twin.Kill(after)
}

// revive lets the store live.
func (r *rig) revive() {
	r.s.Revive()
	r.twin.Revive()
}

// telegrams are those of one tick.
func (r *rig) telegrams() [][]byte {
	var list [][]byte
	for _, ch := range channels(len(r.c.Lines)) {
		r.seq[ch] = (r.seq[ch] + 1) % 256
		if !r.mute[ch] {
			list = append(list, sealed(ch, r.seq[ch], sensor.Print(r.world, ch)))
		}
	}
	return list
}

// step is a tick in which the outer world tells what it is.
func (r *rig) step() api.Outputs {
	r.t.Helper()
	return r.hand(r.telegrams())
}

// steps are n such ticks.
func (r *rig) steps(n int) {
	r.t.Helper()
	for range n {
		r.step()
	}
}

// hand hands these telegrams to a Step, and holds all that is told of it against the model.
func (r *rig) hand(telegrams [][]byte) api.Outputs {
	r.t.Helper()
	got, want := r.k.Step(telegrams), r.m.step(telegrams)
	if got != want {
		r.t.Fatalf("Step at %d: %+v, not %+v", r.m.now, got, want)
	}
	r.holds("Step")
	return got
}

// holds holds State, Events and the store's bytes; asked twice, for being asked changes nothing.
func (r *rig) holds(what string) {
	r.t.Helper()
	for range 2 {
		if got, want := r.k.State(), r.m.state(); !reflect.DeepEqual(got, want) {
			r.t.Fatalf("State behind %s: %+v, not %+v", what, got, want)
		}
		want := r.m.events[max(0, len(r.m.events)-64):]
		if got := r.k.Events(); !slices.Equal(got, want) {
			r.t.Fatalf("Events behind %s at %d: %+v, not %+v", what, r.m.now, got, want)
		}
	}
	if !bytes.Equal(bytesOf(r.s), bytesOf(r.twin)) || r.s.Dead() != r.twin.Dead() {
		r.t.Fatalf("the store behind %s at %d: % x, not % x", what, r.m.now, bytesOf(r.s), bytesOf(r.twin))
	}
}

// isIn holds the road's phase, and since when, told by themselves.
func (r *rig) isIn(phase, since int) {
	r.t.Helper()
	if got := r.k.State().Road; got != (api.Road{Phase: phase, Since: since}) {
		r.t.Fatalf("at %d: %+v, not phase %d, since %d", r.m.now, got, phase, since)
	}
}

// till steps till the road is in a phase.
func (r *rig) till(phase int) {
	r.t.Helper()
	for range 200 {
		if r.k.State().Road.Phase == phase {
			return
		}
		r.step()
	}
	r.t.Fatalf("never in phase %d, but %+v", phase, r.k.State().Road)
}

// opened is a rig whose road opened just now, over the barriers that are up.
func opened(t *testing.T, c api.Config) *rig {
	t.Helper()
	r := blank(t, c)
	r.till(api.PhaseOpen)
	return r
}

// closed is a rig whose road is in PhaseDown, over barriers that are told to be down, and proved; nothing asks for that but the routes.
func closed(t *testing.T, c api.Config, routes int) *rig {
	t.Helper()
	r := from(t, c, api.PhaseDown, 0, 0)
	r.world.Barrier, r.world.Routes = down, routes
	r.steps(c.Times.Prove)
	r.isIn(api.PhaseDown, c.Times.Prove+1)
	return r
}
