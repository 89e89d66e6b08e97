package phase_test

import (
	"fmt"
	"math/big"
	"testing"

	"crossbuck/api"
	"crossbuck/phase"
)

const (
	least   = api.MinInt
	most    = api.MaxInt
	longest = api.MaxSince
)

// dice are numbers that look like no rule, the same at each run.
type dice uint64

func (d *dice) bits() uint64 {
	*d = *d*6364136223846793005 + 1442695040888963407
	return uint64(*d)
}

func (d *dice) below(n int) int {
	return int(d.bits()>>33) % n
}

// rarely is true once in n times.
func (d *dice) rarely(n int) bool {
	return d.below(n) == 0
}

// number is one of any width and sign; every other one is of the greatest.
func (d *dice) number() int {
	high, low := d.bits(), d.bits()
	return int(high<<32^low>>16) >> (d.below(2) * d.below(64))
}

// A moment is all that a Step is handed.
type moment struct {
	t        api.Times
	r        api.Road
	d        api.Demand
	b        api.Barrier
	obstacle bool
}

func (m moment) step() api.Road {
	return phase.Step(m.t, m.r, m.d, m.b, m.obstacle)
}

// first is what a phase begins with.
func first(phase int) api.Road {
	return api.Road{Phase: phase, Since: 1}
}

// stays is m's phase for since ticks.
func (m moment) stays(since int) api.Road {
	return api.Road{Phase: m.r.Phase, Since: since}
}

// steps holds a Step against what it is to answer, twice, as nothing is kept.
func steps(t *testing.T, m moment, want api.Road) {
	t.Helper()
	for range 2 {
		if got := m.step(); got != want {
			t.Fatalf("Step(%+v): %+v, not %+v", m, got, want)
		}
	}
}

// phases are all that there are; closing are those that are left when the road is not to be closed any more.
var (
	phases  = []int{0, 1, 2, 3, 4, 5, 6, 7}
	closing = []int{1, 2, 3, 4, 5}
)

// noPhases are numbers that are none: those beside the ends, and those whose lowest bits are a phase's.
func noPhases() []int {
	list := []int{-1, -2, -7, -8, -9, -255, -256, 8, 9, 15, 16, 255, 256, least, least + 1, most, most - 1}
	for _, high := range []int{8, 16, 256, 1 << 16, 1 << 31, 1 << 32, 1 << 62, -8, -256, -1 << 32, least} {
		for _, p := range phases {
			list = append(list, high+p)
		}
	}
	return list
}

var demands = []api.Demand{{}, {Close: true}, {Urgent: true}, {Close: true, Urgent: true}}

var (
	none   = demands[0]
	closed = demands[1]
	// hasty is urgent, but not to close: no call tells so, but Step may be handed it.
	hasty  = demands[2]
	urgent = demands[3]
)

// barriers are all sixteen.
func barriers() []api.Barrier {
	var list []api.Barrier
	for k := range 16 {
		list = append(list, api.Barrier{EntryDown: k&1 > 0, EntryUp: k&2 > 0, ExitDown: k&4 > 0, ExitUp: k&8 > 0})
	}
	return list
}

// sinces are numbers of ticks at which something changes, or nearly.
var sinces = []int{least, least + 1, -longest, -6000, -2, -1, 0, 1, 2, 3, 100, 5999, 6000, 6001, longest - 2, longest - 1, longest, longest + 1, 1<<31 - 1, 1 << 31, 1 << 32, most - 1, most}

// longer is what a Since is a tick on.
func longer(since int) int {
	switch {
	case since < 0:
		return 1
	case since >= longest:
		return longest
	}
	return since + 1
}

// sum is of two numbers, held within the numbers that there are.
func sum(a, b int) int {
	s := new(big.Int).Add(big.NewInt(int64(a)), big.NewInt(int64(b)))
	switch {
	case s.IsInt64():
		return int(s.Int64())
	case s.Sign() > 0:
		return most
	}
	return least
}

// A rule is a line of the document's list: from the phases of from to another, if it counts.
type rule struct {
	from   []int
	to     int
	counts func(moment) bool
}

// rules are the document's, in its order.
var rules = []rule{
	{[]int{0}, 1, func(m moment) bool { return m.d.Urgent }},
	{[]int{0}, 1, func(m moment) bool { return m.d.Close && m.r.Since >= m.t.Open }},
	{closing, 6, func(m moment) bool { return !m.d.Close }},
	{[]int{1}, 2, func(m moment) bool { return m.r.Since >= m.t.Amber }},
	{[]int{2}, 3, func(m moment) bool { return m.r.Since >= m.t.Red }},
	{[]int{3}, 4, func(m moment) bool { return m.r.Since >= m.t.Entry && !m.obstacle }},
	{[]int{3}, 4, func(m moment) bool { return m.r.Since >= m.t.Entry && m.r.Since >= sum(m.t.Entry, m.t.Override) }},
	{[]int{4}, 5, func(m moment) bool { return m.b.EntryDown && m.b.ExitDown }},
	{[]int{6}, 1, func(m moment) bool { return m.d.Urgent }},
	{[]int{6}, 0, func(m moment) bool { return m.b.EntryUp && m.b.ExitUp }},
}

// model is what Step is to answer.
func model(m moment) api.Road {
	is := func(list []int) bool {
		for _, p := range list {
			if p == m.r.Phase {
				return true
			}
		}
		return false
	}
	for _, r := range rules {
		if is(r.from) && r.counts(m) {
			return first(r.to)
		}
	}
	if !is(phases) {
		return first(7)
	}
	return m.stays(longer(m.r.Since))
}

// P20.1: each phase, and the numbers of the phases.
func TestEnter(t *testing.T) {
	for i, p := range []int{api.PhaseOpen, api.PhaseAmber, api.PhaseRed, api.PhaseEntry, api.PhaseExit, api.PhaseDown, api.PhaseRaise, api.PhaseFailed} {
		for range 2 {
			if got := phase.Enter(p); got != (api.Road{Phase: i, Since: 1}) {
				t.Errorf("Enter(%d): %+v", p, got)
			}
		}
	}
}

// P20.1: what is no phase.
func TestEnterNoPhase(t *testing.T) {
	for _, p := range noPhases() {
		if got := phase.Enter(p); got != (api.Road{Phase: 7, Since: 1}) {
			t.Errorf("Enter(%d): %+v", p, got)
		}
	}
	d := dice(1)
	for range 100000 {
		if p := d.number(); p < 0 || p > 7 {
			if got := phase.Enter(p); got != first(7) {
				t.Fatalf("Enter(%d): %+v", p, got)
			}
		}
	}
}

// P20.2: the document's example, tick by tick.
func TestExample(t *testing.T) {
	times := api.Times{Amber: 2}
	r := phase.Enter(api.PhaseAmber)
	for i, want := range []api.Road{{Phase: 1, Since: 1}, {Phase: 1, Since: 2}, {Phase: 2, Since: 1}} {
		if r != want {
			t.Errorf("tick %d: %+v", i, r)
		}
		r = phase.Step(times, r, closed, api.Barrier{}, false)
	}
}

// all holds a Step of any barrier, with an obstacle and without one.
func all(t *testing.T, m moment, want api.Road) {
	t.Helper()
	for _, b := range barriers() {
		for _, obstacle := range []bool{false, true} {
			m.b, m.obstacle = b, obstacle
			steps(t, m, want)
		}
	}
}

// P20.2: of PhaseOpen: urgent at once, to close behind Open, else not.
func TestOpen(t *testing.T) {
	times := api.Times{Open: 5}
	for since, waits := range []bool{true, true, true, true, true, false, false, false} {
		m := moment{t: times, r: api.Road{Phase: 0, Since: since}}
		for _, d := range demands {
			m.d = d
			switch d {
			case hasty, urgent:
				all(t, m, first(1))
			case closed:
				if waits {
					all(t, m, m.stays(since+1))
				} else {
					all(t, m, first(1))
				}
			default:
				all(t, m, m.stays(since+1))
			}
		}
	}
}

// P20.2: of PhaseAmber and PhaseRed: the next one behind their times.
func TestAmberAndRed(t *testing.T) {
	for _, x := range []struct {
		phase, since int
		want         api.Road
	}{
		{1, 0, api.Road{Phase: 1, Since: 1}}, {1, 1, api.Road{Phase: 1, Since: 2}}, {1, 2, api.Road{Phase: 1, Since: 3}}, {1, 3, first(2)}, {1, 4, first(2)}, {1, 5, first(2)}, {1, 6, first(2)}, {1, 60, first(2)},
		{2, 0, api.Road{Phase: 2, Since: 1}}, {2, 1, api.Road{Phase: 2, Since: 2}}, {2, 2, api.Road{Phase: 2, Since: 3}}, {2, 3, api.Road{Phase: 2, Since: 4}}, {2, 4, api.Road{Phase: 2, Since: 5}}, {2, 5, first(3)}, {2, 6, first(3)}, {2, 60, first(3)},
	} {
		for _, d := range []api.Demand{closed, urgent} {
			all(t, moment{t: api.Times{Amber: 3, Red: 5}, r: api.Road{Phase: x.phase, Since: x.since}, d: d}, x.want)
		}
	}
}

// P20.2: of PhaseEntry: at Entry without an obstacle, at Entry and Override together with one.
func TestEntry(t *testing.T) {
	for _, x := range []struct {
		since          int
		free, obstacle api.Road
	}{
		{0, api.Road{Phase: 3, Since: 1}, api.Road{Phase: 3, Since: 1}},
		{1, api.Road{Phase: 3, Since: 2}, api.Road{Phase: 3, Since: 2}},
		{2, api.Road{Phase: 3, Since: 3}, api.Road{Phase: 3, Since: 3}},
		{3, api.Road{Phase: 3, Since: 4}, api.Road{Phase: 3, Since: 4}},
		{4, first(4), api.Road{Phase: 3, Since: 5}},
		{5, first(4), api.Road{Phase: 3, Since: 6}},
		{6, first(4), api.Road{Phase: 3, Since: 7}},
		{9, first(4), api.Road{Phase: 3, Since: 10}},
		{10, first(4), api.Road{Phase: 3, Since: 11}},
		{11, first(4), first(4)},
		{12, first(4), first(4)},
		{700, first(4), first(4)},
	} {
		for _, b := range barriers() {
			for _, d := range []api.Demand{closed, urgent} {
				m := moment{t: api.Times{Entry: 4, Override: 7}, r: api.Road{Phase: 3, Since: x.since}, d: d, b: b}
				steps(t, m, x.free)
				m.obstacle = true
				steps(t, m, x.obstacle)
			}
		}
	}
}

// P20.2: of PhaseEntry: not ahead of Entry, obstacle or not, if Override is below 0; at Entry in either case.
func TestOverrideBelowZero(t *testing.T) {
	for _, x := range []struct {
		entry, since int
		want         api.Road
	}{
		{1, -1, api.Road{Phase: 3, Since: 1}}, {1, 0, api.Road{Phase: 3, Since: 1}}, {1, 1, first(4)}, {1, 2, first(4)},
		{0, -2, api.Road{Phase: 3, Since: 1}}, {0, -1, api.Road{Phase: 3, Since: 1}}, {0, 0, first(4)}, {0, 1, first(4)},
		{6, least, api.Road{Phase: 3, Since: 1}}, {6, 0, api.Road{Phase: 3, Since: 1}}, {6, 3, api.Road{Phase: 3, Since: 4}}, {6, 4, api.Road{Phase: 3, Since: 5}}, {6, 5, api.Road{Phase: 3, Since: 6}}, {6, 6, first(4)}, {6, 7, first(4)}, {6, most, first(4)},
		{6000, 5998, api.Road{Phase: 3, Since: 5999}}, {6000, 5999, api.Road{Phase: 3, Since: 6000}}, {6000, 6000, first(4)}, {6000, 6001, first(4)},
		{-1, least, api.Road{Phase: 3, Since: 1}}, {-1, -3, api.Road{Phase: 3, Since: 1}}, {-1, -2, api.Road{Phase: 3, Since: 1}}, {-1, -1, first(4)}, {-1, 0, first(4)},
		{most, 0, api.Road{Phase: 3, Since: 1}}, {most, longest, api.Road{Phase: 3, Since: longest}}, {most, most - 1, api.Road{Phase: 3, Since: longest}}, {most, most, first(4)},
		{least + 1, least, api.Road{Phase: 3, Since: 1}}, {least + 1, least + 1, first(4)}, {least, least, first(4)}, {least, most, first(4)},
	} {
		for _, override := range []int{-1, -2, -5, -6, -7, -6000, -6001, -1 << 31, -1 << 32, -1 << 62, least + 2, least + 1, least} {
			for _, d := range []api.Demand{closed, urgent} {
				all(t, moment{t: api.Times{Entry: x.entry, Override: override}, r: api.Road{Phase: 3, Since: x.since}, d: d}, x.want)
			}
		}
	}
}

// P20.2: of PhaseExit: down when both barriers are proved so, whatever else is.
func TestExit(t *testing.T) {
	for _, b := range barriers() {
		for _, since := range sinces {
			for _, d := range []api.Demand{closed, urgent} {
				for _, obstacle := range []bool{false, true} {
					m := moment{r: api.Road{Phase: 4, Since: since}, d: d, b: b, obstacle: obstacle}
					switch b {
					case api.Barrier{EntryDown: true, ExitDown: true},
						api.Barrier{EntryDown: true, ExitDown: true, EntryUp: true},
						api.Barrier{EntryDown: true, ExitDown: true, ExitUp: true},
						api.Barrier{EntryDown: true, ExitDown: true, EntryUp: true, ExitUp: true}:
						steps(t, m, first(5))
					default:
						steps(t, m, m.stays(longer(since)))
					}
				}
			}
		}
	}
}

// P20.2: of PhaseDown: it stays as long as the road is to be closed.
func TestDown(t *testing.T) {
	for _, since := range sinces {
		for _, d := range []api.Demand{closed, urgent} {
			m := moment{r: api.Road{Phase: 5, Since: since}, d: d}
			all(t, m, m.stays(longer(since)))
		}
	}
}

// P20.2: of what closes: raised at once if it is not to be closed, ahead of what times, barriers and obstacles say, even if it is urgent.
func TestNotToClose(t *testing.T) {
	for _, p := range closing {
		for _, times := range []api.Times{{}, {Amber: 3, Red: 3, Entry: 3, Override: 3}, {Amber: most, Red: most, Entry: most, Override: most}, {Amber: least, Red: least, Entry: least, Override: least}} {
			for _, since := range sinces {
				for _, d := range []api.Demand{none, hasty} {
					all(t, moment{t: times, r: api.Road{Phase: p, Since: since}, d: d}, first(6))
				}
			}
		}
	}
}

// P20.2: of PhaseRaise: urgent ahead of all, else open when both barriers are proved up, to close or not.
func TestRaise(t *testing.T) {
	for _, b := range barriers() {
		for _, since := range sinces {
			for _, obstacle := range []bool{false, true} {
				m := moment{r: api.Road{Phase: 6, Since: since}, b: b, obstacle: obstacle}
				for _, m.d = range []api.Demand{hasty, urgent} {
					steps(t, m, first(1))
				}
				for _, m.d = range []api.Demand{none, closed} {
					switch b {
					case api.Barrier{EntryUp: true, ExitUp: true},
						api.Barrier{EntryUp: true, ExitUp: true, EntryDown: true},
						api.Barrier{EntryUp: true, ExitUp: true, ExitDown: true},
						api.Barrier{EntryUp: true, ExitUp: true, EntryDown: true, ExitDown: true}:
						steps(t, m, first(0))
					default:
						steps(t, m, m.stays(longer(since)))
					}
				}
			}
		}
	}
}

// P20.2: of PhaseFailed: it stays, whatever is.
func TestFailed(t *testing.T) {
	for _, times := range []api.Times{{}, {Open: 1, Amber: 1, Red: 1, Entry: 1, Override: 1}, {Open: least, Amber: least, Red: least, Entry: least, Override: least}} {
		for _, since := range sinces {
			for _, d := range demands {
				m := moment{t: times, r: api.Road{Phase: 7, Since: since}, d: d}
				all(t, m, m.stays(longer(since)))
			}
		}
	}
}

// P20.2: of what is no phase: failed, whatever is.
func TestNoPhase(t *testing.T) {
	for _, p := range noPhases() {
		for _, since := range []int{least, -1, 0, 1, 5, longest, most} {
			for _, d := range demands {
				all(t, moment{r: api.Road{Phase: p, Since: since}, d: d}, first(7))
			}
		}
	}
}

// resting are the moments of each phase of which there is no next one, whatever its Since is.
func resting() []moment {
	late := api.Times{Open: most, Amber: most, Red: most, Entry: most, Override: most}
	return []moment{
		{r: api.Road{Phase: 0}},
		{r: api.Road{Phase: 0}, t: late},
		{r: api.Road{Phase: 4}, d: closed},
		{r: api.Road{Phase: 4}, d: urgent, b: api.Barrier{EntryDown: true, EntryUp: true, ExitUp: true}},
		{r: api.Road{Phase: 5}, d: closed, b: api.Barrier{EntryDown: true, ExitDown: true}},
		{r: api.Road{Phase: 6}},
		{r: api.Road{Phase: 6}, d: closed, b: api.Barrier{EntryDown: true, ExitDown: true, ExitUp: true}},
		{r: api.Road{Phase: 7}},
		{r: api.Road{Phase: 7}, d: urgent},
		{r: api.Road{Phase: 0}, d: closed, t: late},
		{r: api.Road{Phase: 1}, d: closed, t: late},
		{r: api.Road{Phase: 2}, d: closed, t: late},
		{r: api.Road{Phase: 3}, d: closed, t: late},
		{r: api.Road{Phase: 3}, d: closed, t: late, obstacle: true},
	}
}

// P20.2: where there is no next phase its Since is one more, 1 if it was below 0, and MaxSince at most.
func TestSince(t *testing.T) {
	for _, m := range resting() {
		for _, x := range []struct{ since, want int }{
			{least, 1}, {least + 1, 1}, {-1 << 32, 1}, {-1 << 31, 1}, {-longest - 1, 1}, {-longest, 1}, {-256, 1}, {-3, 1}, {-2, 1}, {-1, 1},
			{0, 1}, {1, 2}, {2, 3}, {3, 4}, {126, 127}, {127, 128}, {255, 256}, {256, 257}, {5999, 6000}, {6000, 6001}, {6001, 6002}, {32767, 32768}, {65535, 65536},
			{1 << 29, 1<<29 + 1}, {1<<30 - 3, 1<<30 - 2}, {1<<30 - 2, 1<<30 - 1}, {1<<30 - 1, 1 << 30},
			{1 << 30, 1 << 30}, {1<<30 + 1, 1 << 30}, {1<<31 - 1, 1 << 30}, {1 << 31, 1 << 30}, {1<<32 - 1, 1 << 30}, {1 << 32, 1 << 30}, {1 << 62, 1 << 30}, {most - 1, 1 << 30},
		} {
			m.r.Since = x.since
			steps(t, m, m.stays(x.want))
		}
		// The latest of times is over at the greatest Since.
		if m.t.Open == most && m.d.Close {
			continue
		}
		m.r.Since = most
		steps(t, m, m.stays(1<<30))
	}
}

// P20.2: a row of ticks in one phase counts them, each.
func TestSinceCounts(t *testing.T) {
	for _, m := range resting() {
		m.r.Since = 1
		for i := 1; i < 7000; i++ {
			if m.r = m.step(); m.r.Since != i+1 {
				t.Fatalf("behind %d ticks: %+v", i, m)
			}
		}
		m.r.Since = longest - 5
		for i := range 12 {
			if m.r = m.step(); m.r.Since != min(longest-4+i, longest) {
				t.Fatalf("near the end: %+v", m)
			}
		}
	}
}

// A timed moment has a phase that ends at one time alone, which set tells it.
type timed struct {
	moment
	to  int
	set func(*api.Times, int)
}

// parts are an Entry and an Override, not below 0, that are n together.
func parts(n int) (entry, override int) {
	if n < 0 {
		return least, n - least
	}
	return n / 2, n - n/2
}

// timeds are all of them.
var timeds = []timed{
	{moment{r: api.Road{Phase: 0}, d: closed}, 1, func(t *api.Times, n int) { t.Open = n }},
	{moment{r: api.Road{Phase: 1}, d: closed}, 2, func(t *api.Times, n int) { t.Amber = n }},
	{moment{r: api.Road{Phase: 1}, d: urgent}, 2, func(t *api.Times, n int) { t.Amber = n }},
	{moment{r: api.Road{Phase: 2}, d: closed}, 3, func(t *api.Times, n int) { t.Red = n }},
	{moment{r: api.Road{Phase: 2}, d: urgent}, 3, func(t *api.Times, n int) { t.Red = n }},
	{moment{r: api.Road{Phase: 3}, d: closed}, 4, func(t *api.Times, n int) { t.Entry = n }},
	{moment{r: api.Road{Phase: 3}, d: closed}, 4, func(t *api.Times, n int) { t.Entry, t.Override = n, most }},
	{moment{r: api.Road{Phase: 3}, d: urgent, obstacle: true}, 4, func(t *api.Times, n int) { t.Entry = n }},
	{moment{r: api.Road{Phase: 3}, d: closed, obstacle: true}, 4, func(t *api.Times, n int) { t.Entry, t.Override = min(n, 0), max(n, 0) }},
	{moment{r: api.Road{Phase: 3}, d: closed, obstacle: true}, 4, func(t *api.Times, n int) { t.Entry, t.Override = parts(n) }},
	// Of an Override below 0 Entry alone tells the end, over an obstacle and without one.
	{moment{r: api.Road{Phase: 3}, d: closed, obstacle: true}, 4, func(t *api.Times, n int) { t.Entry, t.Override = n, -1 }},
	{moment{r: api.Road{Phase: 3}, d: urgent, obstacle: true}, 4, func(t *api.Times, n int) { t.Entry, t.Override = n, least }},
	{moment{r: api.Road{Phase: 3}, d: closed}, 4, func(t *api.Times, n int) { t.Entry, t.Override = n, -1 }},
	{moment{r: api.Road{Phase: 3}, d: closed}, 4, func(t *api.Times, n int) { t.Entry, t.Override = n, least }},
}

// P20.2: a time counts as it is, 0, below 0, and at the ends, with a Since below, at, and above it.
func TestTimes(t *testing.T) {
	for _, x := range timeds {
		for _, at := range append([]int{-3, 4, 5, 30, 1<<31 + 1, -1 << 31, -1 << 32, 1 << 62, -1 << 62, most - 2, least + 2}, sinces...) {
			m := x.moment
			x.set(&m.t, at)
			m.r.Since = at
			steps(t, m, first(x.to))
			if at > least {
				m.r.Since = at - 1
				steps(t, m, m.stays(longer(at-1)))
				m.r.Since = least
				steps(t, m, m.stays(1))
			}
			if at < most {
				m.r.Since = at + 1
				steps(t, m, first(x.to))
				m.r.Since = most
				steps(t, m, first(x.to))
			}
		}
	}
}

// P20.2: each time beside each Since.
func TestTimesAndSinces(t *testing.T) {
	for _, x := range timeds {
		for _, at := range sinces {
			for _, since := range sinces {
				m := x.moment
				x.set(&m.t, at)
				m.r.Since = since
				if since >= at {
					steps(t, m, first(x.to))
				} else {
					steps(t, m, m.stays(longer(since)))
				}
			}
		}
	}
}

// around are the numbers beside n, and n.
func around(n int) []int {
	return []int{max(n, least+1) - 1, n, min(n, most-1) + 1}
}

// P20.2: Entry and Override together, at the ends of numbers from both sides, over an obstacle.
func TestTogether(t *testing.T) {
	for _, x := range []struct{ entry, override, sum int }{
		{most, 0, most}, {0, most, most}, {most, 1, most}, {1, most, most}, {most, 2, most}, {2, most, most}, {most - 1, 1, most}, {1, most - 1, most}, {most - 1, 2, most}, {2, most - 1, most},
		{most, most, most}, {most - 1, most - 1, most}, {1 << 62, 1 << 62, most}, {1<<62 - 1, 1 << 62, most}, {1 << 62, 1<<62 - 1, most}, {1<<62 + 1, 1 << 62, most}, {6000, most - 5999, most}, {most - 6000, 6000, most},
		{most - 2, 1, most - 1}, {1, most - 2, most - 1}, {1<<62 - 1, 1<<62 - 1, most - 1}, {most, -1, most - 1}, {-1, most, most - 1}, {most - 1, 0, most - 1},
		{least, 0, least}, {0, least, least}, {least, -1, least}, {-1, least, least}, {least, -2, least}, {-2, least, least}, {least + 1, -1, least}, {-1, least + 1, least}, {least + 1, -2, least}, {-2, least + 1, least},
		{least, least, least}, {least + 1, least + 1, least}, {-1 << 62, -1 << 62, least}, {-1<<62 - 1, -1 << 62, least}, {-1 << 62, -1<<62 - 1, least}, {least, -6000, least}, {-6000, least, least},
		{least + 2, -1, least + 1}, {-1, least + 2, least + 1}, {least, 1, least + 1}, {1, least, least + 1}, {-1 << 62, -1<<62 + 1, least + 1}, {least + 1, 0, least + 1}, {0, least + 1, least + 1},
		{most, least, -1}, {least, most, -1}, {most, least + 1, 0}, {least + 1, most, 0}, {most, least + 2, 1}, {-5, 5, 0}, {5, -5, 0}, {-3, 5, 2}, {5, -3, 2}, {-2, -3, -5}, {40, 600, 640}, {6000, 6000, 12000},
		{1 << 31, 1 << 31, 1 << 32}, {1<<31 - 1, 1, 1 << 31}, {1 << 30, 1, 1<<30 + 1}, {1 << 30, 1 << 30, 1 << 31},
	} {
		for _, since := range append(append(around(x.sum), around(x.entry)...), sinces...) {
			m := moment{t: api.Times{Entry: x.entry, Override: x.override}, r: api.Road{Phase: 3, Since: since}, d: closed, obstacle: true}
			if since >= x.entry && since >= x.sum {
				steps(t, m, first(4))
			} else {
				steps(t, m, m.stays(longer(since)))
			}
			// Without an obstacle Entry alone tells.
			m.obstacle = false
			if since >= x.entry {
				steps(t, m, first(4))
			} else {
				steps(t, m, m.stays(longer(since)))
			}
		}
	}
}

// A change makes another moment, in which only what counts in the phases of counts is told otherwise.
type change struct {
	name   string
	counts []int
	change func(*moment)
}

func changes() []change {
	list := []change{
		{"Urgent", []int{0, 6}, func(m *moment) { m.d.Urgent = !m.d.Urgent }},
		{"Close", []int{0, 1, 2, 3, 4, 5}, func(m *moment) { m.d.Close = !m.d.Close }},
		{"EntryDown", []int{4}, func(m *moment) { m.b.EntryDown = !m.b.EntryDown }},
		{"EntryUp", []int{6}, func(m *moment) { m.b.EntryUp = !m.b.EntryUp }},
		{"ExitDown", []int{4}, func(m *moment) { m.b.ExitDown = !m.b.ExitDown }},
		{"ExitUp", []int{6}, func(m *moment) { m.b.ExitUp = !m.b.ExitUp }},
		{"obstacle", []int{3}, func(m *moment) { m.obstacle = !m.obstacle }},
	}
	for _, n := range []int{least, -1, 0, 1, 2, 3, 7, 6000, most} {
		list = append(list,
			change{fmt.Sprint("Amber ", n), []int{1}, func(m *moment) { m.t.Amber = n }},
			change{fmt.Sprint("Red ", n), []int{2}, func(m *moment) { m.t.Red = n }},
			change{fmt.Sprint("Entry ", n), []int{3}, func(m *moment) { m.t.Entry = n }},
			change{fmt.Sprint("Travel ", n), nil, func(m *moment) { m.t.Travel = n }},
			change{fmt.Sprint("Prove ", n), nil, func(m *moment) { m.t.Prove = n }},
			change{fmt.Sprint("Open ", n), []int{0}, func(m *moment) { m.t.Open = n }},
			change{fmt.Sprint("Override ", n), []int{3}, func(m *moment) { m.t.Override = n }},
			change{fmt.Sprint("Fresh ", n), nil, func(m *moment) { m.t.Fresh = n }},
			change{fmt.Sprint("Approach ", n), nil, func(m *moment) { m.t.Approach = n }},
			change{fmt.Sprint("Warn ", n), nil, func(m *moment) { m.t.Warn = n }},
		)
	}
	return list
}

// crossings are times of several kinds.
var crossings = []api.Times{
	{},
	{Amber: 2, Red: 3, Entry: 4, Travel: 5, Prove: 6, Open: 7, Override: 8, Fresh: 9, Approach: 10, Warn: 11},
	{Amber: 11, Red: 9, Entry: 5, Travel: 1, Prove: 1, Open: 3, Override: 1, Fresh: 1, Approach: 1, Warn: 1},
	{Amber: -1, Red: -2, Entry: -3, Open: -4, Override: -5},
	{Amber: 30, Red: 50, Entry: 40, Travel: 60, Prove: 10, Open: 100, Override: 600, Fresh: 20, Approach: 300, Warn: 250},
	{Amber: most, Red: most, Entry: most, Travel: most, Prove: most, Open: most, Override: most, Fresh: most, Approach: most, Warn: most},
	{Amber: least, Red: least, Entry: least, Travel: least, Prove: least, Open: least, Override: least, Fresh: least, Approach: least, Warn: least},
	{Entry: 6, Override: -2},
}

// everyMoment hands on each phase, and some that are none, with each Demand, each Barrier, obstacles, and several times and Sinces.
func everyMoment(hand func(moment)) {
	for _, p := range append([]int{-1, 8, 257, least, most}, phases...) {
		for _, times := range crossings {
			for _, since := range []int{least, -4, -1, 0, 1, 2, 3, 4, 5, 6, 7, 8, 9, 11, 12, 13, 100, 640, longest, most} {
				for _, d := range demands {
					for _, b := range barriers() {
						for _, obstacle := range []bool{false, true} {
							hand(moment{times, api.Road{Phase: p, Since: since}, d, b, obstacle})
						}
					}
				}
			}
		}
	}
}

// P20.2: all that counts beside each other, the first that does of the list.
func TestEveryMoment(t *testing.T) {
	everyMoment(func(m moment) { steps(t, m, model(m)) })
}

// P20.2: no other field matters, told otherwise one by one.
func TestOtherFields(t *testing.T) {
	var has [8][]change
	var without []change
	for _, c := range changes() {
		without = append(without, c)
		for _, p := range phases {
			counts := false
			for _, q := range c.counts {
				counts = counts || p == q
			}
			if !counts {
				has[p] = append(has[p], c)
			}
		}
	}
	d := dice(2)
	everyMoment(func(m moment) {
		// Of so many moments some are enough.
		if !d.rarely(5) {
			return
		}
		list := without
		if m.r.Phase >= 0 && m.r.Phase < 8 {
			list = has[m.r.Phase]
		}
		want := m.step()
		for _, c := range list {
			other := m
			c.change(&other)
			if got := other.step(); got != want {
				t.Fatalf("%s: Step(%+v): %+v, not %+v", c.name, other, got, want)
			}
		}
	})
}

// near is a number around n, or a small one, or any; it may go round.
func (d *dice) near(n int) int {
	switch d.below(4) {
	case 0:
		return d.number()
	case 1:
		return d.below(12) - 2
	}
	return n + d.below(5) - 2
}

// thrown is a moment by dice, whose Since is often near the time that counts.
func (d *dice) thrown() moment {
	m := moment{
		t: api.Times{Amber: d.near(3), Red: d.near(3), Entry: d.near(5), Travel: d.number(), Prove: d.number(), Open: d.near(9), Override: d.near(4), Fresh: d.number(), Approach: d.number(), Warn: d.number()},
		r: api.Road{Phase: d.below(10) - 1},
		d: demands[[]int{0, 1, 1, 2, 3, 3}[d.below(6)]],
		b: api.Barrier{EntryDown: d.rarely(2), EntryUp: d.rarely(2), ExitDown: d.rarely(2), ExitUp: d.rarely(2)},
	}
	m.obstacle = d.rarely(2)
	if d.rarely(20) {
		m.r.Phase = d.number()
	}
	at := []int{m.t.Open, m.t.Amber, m.t.Red, m.t.Entry, sum(m.t.Entry, m.t.Override)}
	m.r.Since = d.near(at[d.below(5)])
	if k := m.r.Phase; k >= 0 && k < 4 && !d.rarely(3) {
		m.r.Since = d.near(at[k])
	}
	if m.r.Phase == 3 && d.rarely(2) {
		m.r.Since = d.near(at[4])
	}
	return m
}

// P20.2: by dice, each phase left for each of its next ones, and stayed in, often.
func TestDice(t *testing.T) {
	d := dice(3)
	type way struct{ from, to int }
	seen := map[way]int{}
	for range 500000 {
		m := d.thrown()
		want := model(m)
		steps(t, m, want)
		seen[way{m.r.Phase, want.Phase}]++
	}
	for _, w := range []way{{0, 0}, {0, 1}, {1, 1}, {1, 2}, {1, 6}, {2, 2}, {2, 3}, {2, 6}, {3, 3}, {3, 4}, {3, 6}, {4, 4}, {4, 5}, {4, 6}, {5, 5}, {5, 6}, {6, 6}, {6, 0}, {6, 1}, {7, 7}, {-1, 7}, {8, 7}} {
		if seen[w] < 5000 {
			t.Errorf("%+v: %d", w, seen[w])
		}
	}
}

// shown are the lights of each phase.
var shown = []api.Lights{
	{},
	{Amber: true, Bell: true},
	{Red: true, Bell: true},
	{Red: true, Bell: true, EntryDown: true},
	{Red: true, Bell: true, EntryDown: true, ExitDown: true},
	{Red: true, EntryDown: true, ExitDown: true},
	{Red: true},
	{Red: true, Bell: true, EntryDown: true, ExitDown: true},
}

// lights holds Lights of a phase against what it is to be, whatever its Since is.
func lights(t *testing.T, p int, want api.Lights) {
	t.Helper()
	for _, since := range append([]int{4, 5, 6, 7, 30, 255, 256}, sinces...) {
		for range 2 {
			got := phase.Lights(api.Road{Phase: p, Since: since})
			for _, x := range []struct {
				name      string
				got, want bool
			}{
				{"Amber", got.Amber, want.Amber}, {"Red", got.Red, want.Red}, {"Bell", got.Bell, want.Bell}, {"EntryDown", got.EntryDown, want.EntryDown}, {"ExitDown", got.ExitDown, want.ExitDown},
			} {
				if x.got != x.want {
					t.Errorf("Lights of phase %d, since %d: %s %t", p, since, x.name, x.got)
				}
			}
		}
	}
}

// P20.3: each phase.
func TestLights(t *testing.T) {
	for _, p := range phases {
		lights(t, p, shown[p])
	}
}

// P20.3: what is no phase.
func TestLightsOfNoPhase(t *testing.T) {
	for _, p := range noPhases() {
		lights(t, p, shown[7])
	}
	d := dice(4)
	for range 100000 {
		if p := d.number(); p < 0 || p > 7 {
			if got := phase.Lights(api.Road{Phase: p, Since: d.number()}); got != shown[7] {
				t.Fatalf("Lights of phase %d: %+v", p, got)
			}
		}
	}
}

// P20.3: each light is told in a list of phases.
func TestEachLight(t *testing.T) {
	for _, x := range []struct {
		name string
		of   func(api.Lights) bool
		in   []int
	}{
		{"Amber", func(l api.Lights) bool { return l.Amber }, []int{api.PhaseAmber}},
		{"Red", func(l api.Lights) bool { return l.Red }, []int{api.PhaseRed, api.PhaseEntry, api.PhaseExit, api.PhaseDown, api.PhaseRaise, api.PhaseFailed, -1, 8}},
		{"Bell", func(l api.Lights) bool { return l.Bell }, []int{api.PhaseAmber, api.PhaseRed, api.PhaseEntry, api.PhaseExit, api.PhaseFailed, -1, 8}},
		{"EntryDown", func(l api.Lights) bool { return l.EntryDown }, []int{api.PhaseEntry, api.PhaseExit, api.PhaseDown, api.PhaseFailed, -1, 8}},
		{"ExitDown", func(l api.Lights) bool { return l.ExitDown }, []int{api.PhaseExit, api.PhaseDown, api.PhaseFailed, -1, 8}},
	} {
		in := map[int]bool{}
		for _, p := range x.in {
			in[p] = true
		}
		for p := -1; p <= 8; p++ {
			if got := x.of(phase.Lights(api.Road{Phase: p, Since: 1})); got != in[p] {
				t.Errorf("%s of phase %d: %t", x.name, p, got)
			}
		}
	}
}

// P20.2, P20.3: a train comes and goes, tick by tick, over an obstacle that is overridden, and one that goes away.
func TestTrain(t *testing.T) {
	times := api.Times{Amber: 2, Red: 3, Entry: 2, Open: 4, Override: 3}
	up, between, down := api.Barrier{EntryUp: true, ExitUp: true}, api.Barrier{}, api.Barrier{EntryDown: true, ExitDown: true}
	half := api.Barrier{EntryDown: true, ExitUp: true}
	r := phase.Enter(api.PhaseOpen)
	for i, x := range []struct {
		d        api.Demand
		b        api.Barrier
		obstacle bool
		want     api.Road
	}{
		{none, up, false, api.Road{Phase: 0, Since: 2}}, {closed, up, false, api.Road{Phase: 0, Since: 3}}, {closed, up, false, api.Road{Phase: 0, Since: 4}}, {closed, up, false, api.Road{Phase: 1, Since: 1}},
		{closed, up, false, api.Road{Phase: 1, Since: 2}}, {closed, up, false, api.Road{Phase: 2, Since: 1}},
		{closed, up, false, api.Road{Phase: 2, Since: 2}}, {closed, up, false, api.Road{Phase: 2, Since: 3}}, {closed, up, false, api.Road{Phase: 3, Since: 1}},
		{closed, up, true, api.Road{Phase: 3, Since: 2}}, {closed, between, true, api.Road{Phase: 3, Since: 3}}, {closed, half, true, api.Road{Phase: 3, Since: 4}}, {closed, half, true, api.Road{Phase: 3, Since: 5}}, {closed, half, true, api.Road{Phase: 4, Since: 1}},
		{closed, half, true, api.Road{Phase: 4, Since: 2}}, {closed, api.Barrier{EntryDown: true}, false, api.Road{Phase: 4, Since: 3}}, {closed, down, false, api.Road{Phase: 5, Since: 1}},
		{closed, down, false, api.Road{Phase: 5, Since: 2}}, {urgent, between, true, api.Road{Phase: 5, Since: 3}}, {none, down, false, api.Road{Phase: 6, Since: 1}},
		{closed, down, false, api.Road{Phase: 6, Since: 2}}, {none, half, false, api.Road{Phase: 6, Since: 3}}, {closed, up, false, api.Road{Phase: 0, Since: 1}},
		{urgent, up, false, api.Road{Phase: 1, Since: 1}}, {urgent, up, false, api.Road{Phase: 1, Since: 2}}, {none, up, false, api.Road{Phase: 6, Since: 1}}, {urgent, up, false, api.Road{Phase: 1, Since: 1}},
		{urgent, up, false, api.Road{Phase: 1, Since: 2}}, {urgent, up, false, api.Road{Phase: 2, Since: 1}}, {closed, up, false, api.Road{Phase: 2, Since: 2}}, {closed, up, false, api.Road{Phase: 2, Since: 3}}, {closed, up, false, api.Road{Phase: 3, Since: 1}},
		{closed, up, true, api.Road{Phase: 3, Since: 2}}, {closed, half, true, api.Road{Phase: 3, Since: 3}}, {closed, half, false, api.Road{Phase: 4, Since: 1}}, {none, down, false, api.Road{Phase: 6, Since: 1}}, {none, up, true, api.Road{Phase: 0, Since: 1}}, {closed, up, false, api.Road{Phase: 0, Since: 2}},
	} {
		r = phase.Step(times, r, x.d, x.b, x.obstacle)
		if r != x.want {
			t.Fatalf("tick %d: %+v, not %+v", i, r, x.want)
		}
		if got := phase.Lights(r); got != shown[x.want.Phase] {
			t.Fatalf("tick %d: %+v", i, got)
		}
	}
}

// A watch looks along a row of ticks at the lights alone.
type watch struct {
	times api.Times
	last  api.Lights
	// For how many ticks each of these was shown when it was shown last, since the barriers were raised.
	amber, red, entry, open int
	// How often barriers began to go down, exit ones over an obstacle, and up, and the road was not open any more.
	entries, exits, overridden, raised, opened int
}

// kind tells which of six things the road is shown.
func kind(l api.Lights) string {
	switch {
	case l.ExitDown:
		return "exit"
	case l.EntryDown:
		return "entry"
	case l.Red && l.Bell:
		return "red"
	case l.Amber:
		return "amber"
	case l.Red:
		return "raise"
	}
	return "open"
}

// sees holds a tick's lights against those ahead of it: l is what was shown behind a step of d and obstacle.
func (w *watch) sees(t *testing.T, l api.Lights, d api.Demand, obstacle bool) {
	t.Helper()
	was, is := kind(w.last), kind(l)
	if l.EntryDown && !w.last.EntryDown {
		w.entries++
		if was != "red" || w.red != max(w.times.Red, 1) || w.amber != max(w.times.Amber, 1) {
			t.Fatalf("%+v: entry barriers go down behind %d of amber and %d of red", w.times, w.amber, w.red)
		}
	}
	if l.ExitDown && !w.last.ExitDown {
		w.exits++
		late := w.entry >= w.times.Entry+w.times.Override
		if was != "entry" || w.entry < w.times.Entry || obstacle && !late {
			t.Fatalf("%+v: exit barriers go down behind %d, obstacle %t", w.times, w.entry, obstacle)
		}
		if obstacle {
			w.overridden++
		}
	}
	if !d.Close && was != "open" && was != "raise" {
		w.raised++
		if is != "raise" || l.EntryDown || l.ExitDown {
			t.Fatalf("%+v: not to be closed any more, and %+v is shown behind %+v", w.times, l, w.last)
		}
	}
	if was == "open" && is != "open" {
		w.opened++
		if is != "amber" || !d.Urgent && w.open < w.times.Open {
			t.Fatalf("%+v: %s behind %d ticks of an open road", w.times, is, w.open)
		}
	}
	if is == "open" && was != "open" && was != "raise" {
		t.Fatalf("%+v: open behind %s", w.times, was)
	}
	w.counts(was, is)
	w.last = l
}

// counts counts on what is shown.
func (w *watch) counts(was, is string) {
	for _, x := range []struct {
		kind  string
		ticks *int
	}{{"open", &w.open}, {"amber", &w.amber}, {"red", &w.red}, {"entry", &w.entry}} {
		switch {
		case is != x.kind:
		case was == is:
			*x.ticks++
		default:
			*x.ticks = 1
		}
	}
	if is == "raise" {
		w.open, w.amber, w.red, w.entry = 0, 0, 0, 0
	}
}

// P20.4: rows from an open road on, with demands, barriers and obstacles by dice.
func TestRows(t *testing.T) {
	d := dice(5)
	entries, exits, overridden, raised, opened := 0, 0, 0, 0, 0
	for range 3000 {
		times := api.Times{Amber: d.below(5), Red: d.below(5), Entry: d.below(5), Open: d.below(6), Override: d.below(9) - 3}
		w := watch{times: times, open: 1}
		r := phase.Enter(api.PhaseOpen)
		asked := none
		calm, moves, stands := 2+d.below(40), 1+d.below(4), 2+d.below(10)
		obstacle := false
		for range 200 {
			if d.rarely(calm) {
				asked = demands[[]int{0, 1, 1, 3, 3}[d.below(5)]]
			}
			if d.rarely(stands) {
				obstacle = !obstacle
			}
			b := api.Barrier{EntryDown: d.rarely(moves), EntryUp: d.rarely(moves), ExitDown: d.rarely(moves), ExitUp: d.rarely(moves)}
			r = phase.Step(times, r, asked, b, obstacle)
			if r.Phase == api.PhaseFailed || r.Since < 1 {
				t.Fatalf("%+v: %+v", times, r)
			}
			w.sees(t, phase.Lights(r), asked, obstacle)
		}
		entries, exits, overridden, raised, opened = entries+w.entries, exits+w.exits, overridden+w.overridden, raised+w.raised, opened+w.opened
	}
	if entries < 5000 || exits < 5000 || overridden < 1000 || raised < 5000 || opened < 5000 {
		t.Errorf("dice that throw too little: %d entries, %d exits, %d of them overridden, %d raised, %d opened", entries, exits, overridden, raised, opened)
	}
}

// P20.4: what failed stays so, with all that warns, whatever is told.
func TestFailedStays(t *testing.T) {
	d := dice(6)
	for range 300 {
		r := phase.Enter(d.below(1000) + 7)
		for i := range 200 {
			if r != (api.Road{Phase: 7, Since: i + 1}) || phase.Lights(r) != shown[7] {
				t.Fatalf("behind %d ticks: %+v", i, r)
			}
			m := d.thrown()
			r = phase.Step(m.t, r, m.d, m.b, m.obstacle)
		}
	}
}

// W2: two rows of ticks, stepped in turn, answer what each answers alone.
func TestRowsApart(t *testing.T) {
	d := dice(7)
	var moments [2][]moment
	var alone [2][]api.Road
	for k := range 2 {
		r := phase.Enter(k * 3)
		for range 3000 {
			m := d.thrown()
			m.r = r
			r = m.step()
			moments[k], alone[k] = append(moments[k], m), append(alone[k], r)
			if r.Phase == 7 || d.rarely(30) {
				r = phase.Enter(d.below(7))
			}
		}
	}
	for i := range moments[0] {
		for k := range 2 {
			if got := moments[k][i].step(); got != alone[k][i] {
				t.Fatalf("row %d, tick %d: %+v, not %+v", k, i, got, alone[k][i])
			}
		}
	}
}
