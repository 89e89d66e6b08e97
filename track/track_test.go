package track_test

import (
	"testing"

	"crossbuck/api"
	"crossbuck/axle"
	"crossbuck/pair"
	"crossbuck/track"
)

const (
	least = api.MinInt
	most  = api.MaxInt
	limit = 1 << 30
)

// dice are numbers that look like no rule, the same at each run.
type dice uint64

func (d *dice) bits() uint64 {
	*d = *d*6364136223846793005 + 1442695040888963407
	return uint64(*d)
}

func (d *dice) below(n int) int {
	return int(d.bits()>>33) % n
}

// number is one of any width and sign; every other one is of the greatest.
func (d *dice) number() int {
	high, low := d.bits(), d.bits()
	return int(high<<32^low>>16) >> (d.below(2) * d.below(64))
}

func (d *dice) bool() bool {
	return d.below(2) == 0
}

// seldom is true one time in eight.
func (d *dice) seldom() bool {
	return d.below(8) == 0
}

// with is n, or n beneath other bits than the count lowest.
func (d *dice) with(n, count int) int {
	if d.bool() {
		return n
	}
	return d.number()<<count | n
}

// sinces are those at which something changes, or nearly, and what Since is a tick later where the track is not clear.
var sinces = [][2]int{
	{least, 1}, {least + 1, 1}, {-limit, 1}, {-2, 1}, {-1, 1}, {0, 1}, {1, 2}, {2, 3}, {99, 100},
	{limit - 2, limit - 1}, {limit - 1, limit}, {limit, limit}, {limit + 1, limit}, {2 * limit, limit}, {1 << 32, limit}, {most - 1, limit}, {most, limit},
}

func (d *dice) since() int {
	if d.seldom() {
		return d.number()
	}
	if d.bool() {
		return d.below(20)
	}
	return sinces[d.below(len(sinces))][0]
}

func (d *dice) delay() int {
	if d.seldom() {
		return d.number()
	}
	if d.bool() {
		return d.below(20)
	}
	return []int{least, -1, 0, 1, limit - 1, limit, most}[d.below(7)]
}

func (d *dice) class() int {
	if d.seldom() {
		return []int{-1, 3, 4, least, most, d.number()}[d.below(6)]
	}
	return d.below(3)
}

func (d *dice) track() api.Track {
	n := d.below(256)
	t := api.Track{Since: d.since(), Clear: d.bool(), Fault: d.bool(), Call: d.bool()}
	t.Axle = api.Axle{Had: !d.seldom(), In: d.with((n+d.below(3)*d.below(70))&255, 8), Out: d.with(n, 8), Wrong: d.seldom()}
	t.Pair = api.Pair{Lie: d.with(d.below(4)*d.below(2), 2), Pos: d.number(), Jump: d.seldom()}
	return t
}

// counts are ones that may follow t, or not.
func (d *dice) counts(t api.Track) api.Counts {
	if d.seldom() {
		return api.Counts{Fresh: d.bool(), In: d.number(), Out: d.number(), Class: d.class(), Lie: d.number()}
	}
	in := t.Axle.In + d.below(2)*d.below(66)
	out := []int{in, t.Axle.Out, in - d.below(130)}[d.below(3)]
	return api.Counts{Fresh: !d.seldom(), In: in, Out: out, Class: d.class(), Lie: d.with(d.below(4)*d.below(2), 2)}
}

func (d *dice) delays() [3]int {
	return [3]int{d.delay(), d.delay(), d.delay()}
}

// low are the two lowest bits of lie, where a remainder may be below 0.
func low(lie int) int {
	return (lie%4 + 4) % 4
}

// model is what Step is to answer, line by line of the promise.
func model(t api.Track, c api.Counts, delays [3]int, reset bool) api.Track {
	a, p := t.Axle, t.Pair
	if c.Fresh {
		a, p = axle.Step(a, c.In, c.Out), pair.Step(p, c.Lie)
	}
	if reset {
		a = axle.Reset(a)
		p.Jump = p.Jump && low(p.Lie) != 0
	}
	causes := 0
	for _, cause := range []bool{!c.Fresh, a.Wrong, p.Jump} {
		if cause {
			causes++
		}
	}
	if causes == 0 && axle.Clear(a) && pair.Rest(p) {
		return api.Track{Axle: a, Pair: p, Clear: true}
	}
	since := 1
	if t.Since >= limit {
		since = limit
	} else if t.Since > 0 {
		since = t.Since + 1
	}
	delay := 0
	switch c.Class {
	case 0:
		delay = delays[0]
	case 1:
		delay = delays[1]
	case 2:
		delay = delays[2]
	}
	return api.Track{Axle: a, Pair: p, Since: since, Fault: causes > 0, Call: causes > 0 || since > delay}
}

// answers holds a Step against what is wanted of it, and that it changed nothing that it was handed.
func answers(t *testing.T, r api.Track, c api.Counts, delays [3]int, reset bool, want api.Track) {
	t.Helper()
	track0, counts0, delays0 := r, c, delays
	if got := track.Step(r, c, delays, reset); got != want {
		t.Errorf("Step(%+v, %+v, %d, %t): %+v, not %+v", r, c, delays, reset, got, want)
	}
	if r != track0 || c != counts0 || delays != delays0 {
		t.Errorf("Step(%+v, %+v, %d, %t): what was handed in is %+v, %+v, %d", track0, counts0, delays0, reset, r, c, delays)
	}
}

// holds holds a Step against the model.
func holds(t *testing.T, r api.Track, c api.Counts, delays [3]int, reset bool) {
	t.Helper()
	answers(t, r, c, delays, reset, model(r, c, delays, reset))
}

// quiet is a track that is clear, its counters at n; same is what is told of it when nothing changed.
func quiet(n int) api.Track {
	return api.Track{Axle: api.Axle{Had: true, In: n, Out: n}, Clear: true}
}

func same(n int) api.Counts {
	return api.Counts{Fresh: true, In: n, Out: n}
}

// late are delays that no train outlasts.
var late = [3]int{most, most, most}

// P12.1: the document's example: not fresh: Fault, Call, not Clear.
func TestExample(t *testing.T) {
	answers(t, api.Track{}, api.Counts{}, [3]int{}, false, api.Track{Since: 1, Fault: true, Call: true})
	answers(t, api.Track{}, api.Counts{}, late, false, api.Track{Since: 1, Fault: true, Call: true})
	answers(t, quiet(7), api.Counts{}, late, false, api.Track{Axle: quiet(7).Axle, Since: 1, Fault: true, Call: true})
}

// P12.1: ordinary steps, one behind the other: a train of two axles over a track, its delay 2 ticks.
func TestOrdinarySteps(t *testing.T) {
	delays := [3]int{9, 2, 0}
	var r api.Track
	for i, x := range []struct {
		c    api.Counts
		want api.Track
	}{
		{api.Counts{Fresh: true, In: 255, Out: 255, Class: 1}, api.Track{Axle: api.Axle{Had: true, In: 255, Out: 255}, Clear: true}},
		{api.Counts{Fresh: true, In: 255, Out: 255, Class: 1}, api.Track{Axle: api.Axle{Had: true, In: 255, Out: 255}, Clear: true}},
		{api.Counts{Fresh: true, In: 255, Out: 255, Class: 1, Lie: 1}, api.Track{Axle: api.Axle{Had: true, In: 255, Out: 255}, Pair: api.Pair{Lie: 1, Pos: 1}, Since: 1}},
		{api.Counts{Fresh: true, In: 0, Out: 255, Class: 1, Lie: 3}, api.Track{Axle: api.Axle{Had: true, In: 0, Out: 255}, Pair: api.Pair{Lie: 3, Pos: 2}, Since: 2}},
		{api.Counts{Fresh: true, In: 0, Out: 255, Class: 1, Lie: 2}, api.Track{Axle: api.Axle{Had: true, In: 0, Out: 255}, Pair: api.Pair{Lie: 2, Pos: 3}, Since: 3, Call: true}},
		{api.Counts{Fresh: true, In: 1, Out: 255, Class: 1}, api.Track{Axle: api.Axle{Had: true, In: 1, Out: 255}, Pair: api.Pair{Pos: 4}, Since: 4, Call: true}},
		{api.Counts{Fresh: true, In: 1, Out: 0, Class: 1}, api.Track{Axle: api.Axle{Had: true, In: 1, Out: 0}, Pair: api.Pair{Pos: 4}, Since: 5, Call: true}},
		{api.Counts{Fresh: true, In: 1, Out: 0}, api.Track{Axle: api.Axle{Had: true, In: 1, Out: 0}, Pair: api.Pair{Pos: 4}, Since: 6}},
		{api.Counts{Class: 0}, api.Track{Axle: api.Axle{Had: true, In: 1, Out: 0}, Pair: api.Pair{Pos: 4}, Since: 7, Fault: true, Call: true}},
		{api.Counts{Fresh: true, In: 1, Out: 1, Class: 1}, api.Track{Axle: api.Axle{Had: true, In: 1, Out: 1}, Pair: api.Pair{Pos: 4}, Clear: true}},
		{api.Counts{Fresh: true, In: 1, Out: 2, Class: 1}, api.Track{Axle: api.Axle{Had: true, In: 1, Out: 2, Wrong: true}, Pair: api.Pair{Pos: 4}, Since: 1, Fault: true, Call: true}},
		{api.Counts{Fresh: true, In: 2, Out: 2, Class: 1}, api.Track{Axle: api.Axle{Had: true, In: 2, Out: 2, Wrong: true}, Pair: api.Pair{Pos: 4}, Since: 2, Fault: true, Call: true}},
	} {
		got := track.Step(r, x.c, delays, false)
		if got != x.want {
			t.Fatalf("%d: Step(%+v, %+v): %+v, not %+v", i, r, x.c, got, x.want)
		}
		r = got
	}
	answers(t, r, same(2), delays, true, api.Track{Axle: api.Axle{Had: true, In: 2, Out: 2}, Pair: api.Pair{Pos: 4}, Clear: true})
}

// P12.1: what is fresh steps the counters by In and Out, the treadles by Lie, and neither by the other's.
func TestFreshSteps(t *testing.T) {
	d := dice(1)
	for range 100000 {
		r := d.track()
		c := d.counts(r)
		c.Fresh = true
		got := track.Step(r, c, d.delays(), false)
		if got.Axle != axle.Step(r.Axle, c.In, c.Out) || got.Pair != pair.Step(r.Pair, c.Lie) {
			t.Fatalf("Step(%+v, %+v): %+v", r, c, got)
		}
	}
}

// P12.1: what is not fresh leaves counters and treadles as they were, whatever In, Out and Lie say: a Fault, a Call, not Clear.
func TestNotFresh(t *testing.T) {
	for _, a := range []api.Axle{{}, {Had: true}, {Had: true, In: 9, Out: 9}, {Had: true, In: 10, Out: 9}, {Had: true, In: 9, Out: 9, Wrong: true}, {In: 256, Out: -1}, {Had: true, In: most, Out: least, Wrong: true}} {
		for _, p := range []api.Pair{{}, {Lie: 1, Pos: 1}, {Lie: 2}, {Lie: 3, Pos: most}, {Jump: true}, {Lie: 3, Pos: least, Jump: true}, {Lie: 4}, {Lie: -1, Pos: 5}, {Lie: least}} {
			for _, in := range []int{0, 9, 10, 100, 255, 256, -1, least, most} {
				for _, out := range []int{0, 9, 10, 255, -1, least, most} {
					for lie := -1; lie <= 4; lie++ {
						r := api.Track{Axle: a, Pair: p, Since: 4}
						c := api.Counts{In: in, Out: out, Lie: lie}
						answers(t, r, c, late, false, api.Track{Axle: a, Pair: p, Since: 5, Fault: true, Call: true})
					}
				}
			}
		}
	}
}

// P12.1: the class of what is not fresh does not matter: a fault calls at once.
func TestNotFreshOfAnyClass(t *testing.T) {
	for _, class := range []int{0, 1, 2, -1, 3, least, most} {
		for _, since := range sinces {
			r := quiet(3)
			r.Since = since[0]
			for _, delays := range [][3]int{{}, late, {least, least, least}} {
				answers(t, r, api.Counts{Class: class}, delays, false, api.Track{Axle: r.Axle, Since: since[1], Fault: true, Call: true})
			}
		}
	}
}

// P12.1: a reset of counters that were wrong: forgotten with none on the track, kept with some on it, of fresh counts and of others; without a reset nothing of it is forgotten.
func TestResetOfCounters(t *testing.T) {
	for on := range 256 {
		r := api.Track{Axle: api.Axle{Had: true, In: 17 + on, Out: 17, Wrong: true}, Since: 6}
		told := api.Counts{Fresh: true, In: 17 + on, Out: 17}
		after := r.Axle
		after.In &= 255
		answers(t, r, told, late, false, api.Track{Axle: after, Since: 7, Fault: true, Call: true})
		answers(t, r, api.Counts{}, late, false, api.Track{Axle: r.Axle, Since: 7, Fault: true, Call: true})
		if on == 0 {
			answers(t, r, told, late, true, quiet(17))
			answers(t, r, api.Counts{}, late, true, api.Track{Axle: quiet(17).Axle, Since: 7, Fault: true, Call: true})
			continue
		}
		answers(t, r, told, late, true, api.Track{Axle: after, Since: 7, Fault: true, Call: true})
		answers(t, r, api.Counts{}, late, true, api.Track{Axle: r.Axle, Since: 7, Fault: true, Call: true})
	}
}

// P12.1: a reset of counters with other bits than the eight that count, and of ones that never came, none of which is told anew.
func TestResetOfOtherCounters(t *testing.T) {
	for _, x := range []struct {
		a     api.Axle
		wrong bool
	}{
		{api.Axle{Wrong: true}, false},
		{api.Axle{In: 1, Wrong: true}, true},
		{api.Axle{In: 256, Out: -256, Wrong: true}, false},
		{api.Axle{Had: true, In: 255, Out: -1, Wrong: true}, false},
		{api.Axle{Had: true, In: -1, Out: most, Wrong: true}, false},
		{api.Axle{Had: true, In: most, Out: least, Wrong: true}, true},
		{api.Axle{Had: true, In: least, Out: 0, Wrong: true}, false},
		{api.Axle{Had: true, In: 5, Out: 5}, false},
	} {
		want := x.a
		want.Wrong = x.wrong
		answers(t, api.Track{Axle: x.a}, api.Counts{In: 3, Out: 4}, late, true, api.Track{Axle: want, Since: 1, Fault: true, Call: true})
		answers(t, api.Track{Axle: x.a}, api.Counts{In: 3, Out: 4}, late, false, api.Track{Axle: x.a, Since: 1, Fault: true, Call: true})
	}
}

// P12.1: a reset of treadles that jumped, not told anew: forgotten where the two lowest bits of Lie are 0, whatever the others are; Lie and Pos stay as they were.
func TestResetOfTreadles(t *testing.T) {
	for _, high := range []int{0, 4, 8, -4, -8, 1 << 31, 1 << 32, 1 << 62, least, most - 3} {
		for lie := range 4 {
			for _, pos := range []int{0, 5, -5, least, most} {
				p := api.Pair{Lie: high | lie, Pos: pos, Jump: true}
				r := api.Track{Axle: quiet(8).Axle, Pair: p, Since: 2}
				answers(t, r, api.Counts{Lie: lie ^ 1}, late, false, api.Track{Axle: r.Axle, Pair: p, Since: 3, Fault: true, Call: true})
				p.Jump = lie != 0
				answers(t, r, api.Counts{Lie: lie ^ 1}, late, true, api.Track{Axle: r.Axle, Pair: p, Since: 3, Fault: true, Call: true})
			}
		}
	}
}

// P12.1: a reset of treadles that jumped, told anew: it is how they lie then that counts, not how they lay.
func TestResetOfFreshTreadles(t *testing.T) {
	for _, high := range []int{0, 4, -4, 1 << 32, least} {
		for was := range 4 {
			for lie := range 4 {
				r := api.Track{Axle: quiet(8).Axle, Pair: api.Pair{Lie: was, Pos: 40, Jump: true}, Since: 2}
				c := same(8)
				c.Lie = high | lie
				p := pair.Step(r.Pair, lie)
				answers(t, r, c, late, false, api.Track{Axle: r.Axle, Pair: p, Since: 3, Fault: true, Call: true})
				if p.Jump = lie != 0; p.Jump {
					answers(t, r, c, late, true, api.Track{Axle: r.Axle, Pair: p, Since: 3, Fault: true, Call: true})
				} else {
					answers(t, r, c, late, true, api.Track{Axle: r.Axle, Pair: p, Clear: true})
				}
			}
		}
	}
}

// P12.1: a reset of both at once forgets each of the two by itself.
func TestResetOfBoth(t *testing.T) {
	for on := range 3 {
		for lie := range 4 {
			r := api.Track{Axle: api.Axle{Had: true, In: 50 + on, Out: 50, Wrong: true}, Pair: api.Pair{Lie: lie, Pos: 9, Jump: true}}
			c := api.Counts{Fresh: true, In: 50 + on, Out: 50, Lie: lie}
			want := api.Track{Axle: r.Axle, Pair: r.Pair, Since: 1, Fault: true, Call: true}
			answers(t, r, c, late, false, want)
			want.Axle.Wrong = on != 0
			want.Pair.Jump = lie != 0
			if on == 0 && lie == 0 {
				want.Since, want.Fault, want.Call, want.Clear = 0, false, false, true
			}
			answers(t, r, c, late, true, want)
			c.Fresh = false
			answers(t, r, c, late, true, api.Track{Axle: want.Axle, Pair: want.Pair, Since: 1, Fault: true, Call: true})
		}
	}
}

// P12.1: a reset of what was never wrong changes nothing.
func TestResetOfNothing(t *testing.T) {
	for lie := range 4 {
		for on := range 64 {
			r := api.Track{Axle: api.Axle{Had: true, In: 1, Out: 1}, Pair: api.Pair{Lie: lie, Pos: 3}, Since: 5}
			c := api.Counts{Fresh: true, In: 1 + on, Out: 1, Lie: lie}
			want := api.Track{Axle: api.Axle{Had: true, In: 1 + on, Out: 1}, Pair: r.Pair, Since: 6}
			if lie == 0 && on == 0 {
				want.Clear, want.Since = true, 0
			}
			answers(t, r, c, late, false, want)
			answers(t, r, c, late, true, want)
		}
	}
}

// P12.1: the reset is looked at behind the step of its tick, and the Fault behind the reset.
func TestOrder(t *testing.T) {
	// What goes wrong in the tick of the reset is forgotten at once, where it may be.
	answers(t, quiet(0), same(100), late, true, quiet(100))
	answers(t, quiet(0), same(100), late, false, api.Track{Axle: api.Axle{Had: true, In: 100, Out: 100, Wrong: true}, Since: 1, Fault: true, Call: true})
	r := quiet(0)
	r.Pair.Lie = 3
	answers(t, r, same(0), late, true, quiet(0))
	answers(t, r, same(0), late, false, api.Track{Axle: r.Axle, Pair: api.Pair{Jump: true}, Since: 1, Fault: true, Call: true})
	// The last axle comes out in it, the last treadle comes up in it.
	r = api.Track{Axle: api.Axle{Had: true, In: 9, Out: 8, Wrong: true}, Pair: api.Pair{Lie: 2, Pos: 3, Jump: true}}
	want := quiet(9)
	want.Pair.Pos = 4
	answers(t, r, same(9), late, true, want)
	// An axle goes in in it, a treadle goes down in it: nothing is forgotten.
	r = api.Track{Axle: api.Axle{Had: true, In: 8, Out: 8, Wrong: true}, Pair: api.Pair{Pos: 3, Jump: true}}
	c := api.Counts{Fresh: true, In: 9, Out: 8, Lie: 1}
	answers(t, r, c, late, true, api.Track{Axle: api.Axle{Had: true, In: 9, Out: 8, Wrong: true}, Pair: api.Pair{Lie: 1, Pos: 4, Jump: true}, Since: 1, Fault: true, Call: true})
	// Not fresh, the step is none: what was told does not keep the reset back.
	answers(t, r, api.Counts{In: 9, Out: 8, Lie: 1}, late, true, api.Track{Axle: api.Axle{Had: true, In: 8, Out: 8}, Pair: api.Pair{Pos: 3}, Since: 1, Fault: true, Call: true})
	// It goes wrong in the tick of the reset with axles on, or treadles down: kept.
	answers(t, quiet(0), api.Counts{Fresh: true, In: 65}, late, true, api.Track{Axle: api.Axle{Had: true, In: 65, Wrong: true}, Since: 1, Fault: true, Call: true})
	c = same(0)
	c.Lie = 3
	answers(t, quiet(0), c, late, true, api.Track{Axle: quiet(0).Axle, Pair: api.Pair{Lie: 3, Jump: true}, Since: 1, Fault: true, Call: true})
}

// P12.1: a Fault by each of its three causes, by two of them, by all; none of them is no Fault.
func TestFault(t *testing.T) {
	for causes := range 8 {
		r := quiet(20)
		r.Axle.Wrong = causes&1 > 0
		r.Pair.Jump = causes&2 > 0
		c := same(20)
		c.Fresh = causes&4 == 0
		want := api.Track{Axle: r.Axle, Pair: r.Pair, Since: 1, Fault: true, Call: true}
		if causes == 0 {
			want.Since, want.Fault, want.Call, want.Clear = 0, false, false, true
		}
		answers(t, r, c, late, false, want)
		// With a train on it, only the Fault is another thing.
		r.Axle.In, c.In, want.Axle.In = 22, 22, 22
		want.Clear, want.Since, want.Call = false, 1, causes > 0
		answers(t, r, c, late, false, want)
		r.Pair.Lie, c.Lie, want.Pair.Lie = 1, 1, 1
		answers(t, r, c, late, false, want)
	}
}

// P12.1: a Fault comes in the tick in which it happens, of each cause.
func TestFaultAtOnce(t *testing.T) {
	for _, c := range []api.Counts{
		{},
		{In: 20, Out: 20},
		{Fresh: true, In: 85, Out: 20},
		{Fresh: true, In: 85, Out: 85},
		{Fresh: true, In: 20, Out: 21},
		{Fresh: true, In: 19, Out: 20},
		{Fresh: true, In: 20, Out: 20, Lie: 3},
		{Fresh: true, In: 20, Out: 20, Lie: -1},
	} {
		got := track.Step(quiet(20), c, late, false)
		if !got.Fault || !got.Call || got.Clear || got.Since != 1 {
			t.Errorf("Step of %+v: %+v", c, got)
		}
	}
	for _, c := range []api.Counts{
		same(20),
		{Fresh: true, In: 84, Out: 20},
		{Fresh: true, In: 84, Out: 84},
		{Fresh: true, In: 20, Out: 20, Lie: 1},
		{Fresh: true, In: 20, Out: 20, Lie: 2},
	} {
		if got := track.Step(quiet(20), c, late, false); got.Fault || got.Call {
			t.Errorf("Step of %+v: %+v", c, got)
		}
	}
}

// P12.1: not Clear, of each cause by itself: counters that never came, axles on the track, treadles that do not rest.
func TestClear(t *testing.T) {
	// Counters that never came came by the first fresh telling; without one there is a Fault as well.
	answers(t, api.Track{}, same(0), late, false, quiet(0))
	answers(t, api.Track{}, same(77), late, false, quiet(77))
	answers(t, api.Track{Axle: api.Axle{In: 5, Out: 5}}, api.Counts{In: 5, Out: 5}, late, true, api.Track{Axle: api.Axle{In: 5, Out: 5}, Since: 1, Fault: true, Call: true})
	for on := range 65 {
		r := quiet(20)
		c := api.Counts{Fresh: true, In: 20 + on, Out: 20}
		want := api.Track{Axle: api.Axle{Had: true, In: 20 + on, Out: 20}, Clear: on == 0}
		if on > 0 {
			want.Since = 1
		}
		answers(t, r, c, late, false, want)
	}
	for lie := range 4 {
		for _, high := range []int{0, 4, -4, least} {
			r := quiet(20)
			r.Pair.Lie = lie
			c := same(20)
			c.Lie = high | lie
			want := api.Track{Axle: r.Axle, Pair: api.Pair{Lie: lie}, Clear: lie == 0}
			if lie > 0 {
				want.Since = 1
			}
			answers(t, r, c, late, false, want)
		}
	}
	// Both, and a Pos that is not 0 does not matter.
	answers(t, quiet(20), api.Counts{Fresh: true, In: 21, Out: 20, Lie: 1}, late, false, api.Track{Axle: api.Axle{Had: true, In: 21, Out: 20}, Pair: api.Pair{Lie: 1, Pos: 1}, Since: 1})
	for _, pos := range []int{1, -1, 4, least, most} {
		r := quiet(20)
		r.Pair.Pos = pos
		answers(t, r, same(20), late, false, r)
	}
}

// P12.1: Since from each of its edges on: 0 if the track is clear, else one more, from 0 on and 2^30 at most.
func TestSince(t *testing.T) {
	on := api.Counts{Fresh: true, In: 21, Out: 20}
	for _, since := range sinces {
		r := quiet(20)
		r.Since = since[0]
		answers(t, r, same(20), late, false, quiet(20))
		answers(t, r, same(20), late, true, quiet(20))
		answers(t, r, on, late, false, api.Track{Axle: api.Axle{Had: true, In: 21, Out: 20}, Since: since[1]})
		answers(t, r, on, late, true, api.Track{Axle: api.Axle{Had: true, In: 21, Out: 20}, Since: since[1]})
		answers(t, r, api.Counts{}, late, false, api.Track{Axle: r.Axle, Since: since[1], Fault: true, Call: true})
		// A reset makes it clear: 0 again.
		r.Axle.Wrong = true
		answers(t, r, same(20), late, true, quiet(20))
	}
}

// P12.1: Since counts up tick by tick, and begins anew behind a tick in which the track was clear.
func TestSinceTickByTick(t *testing.T) {
	r := quiet(20)
	on := api.Counts{Fresh: true, In: 21, Out: 20}
	for i := 1; i <= 500; i++ {
		r = track.Step(r, on, late, false)
		if r.Since != i || r.Clear {
			t.Fatalf("%d: %+v", i, r)
		}
	}
	if r = track.Step(r, same(21), late, false); r != quiet(21) {
		t.Fatalf("%+v", r)
	}
	for i := 1; i <= 5; i++ {
		if r = track.Step(r, api.Counts{}, late, false); r.Since != i {
			t.Fatalf("%d: %+v", i, r)
		}
	}
	r.Since = limit - 3
	for i := range 6 {
		r = track.Step(r, api.Counts{}, late, false)
		if want := []int{limit - 2, limit - 1, limit, limit, limit, limit}[i]; r.Since != want {
			t.Fatalf("%d: %+v", i, r)
		}
	}
}

// P12.1: Call at, one below and one above the delay of each class; the delays of the others do not matter.
func TestCall(t *testing.T) {
	on := api.Counts{Fresh: true, In: 21, Out: 20}
	for class := range 3 {
		for _, others := range []int{least, -1, 0, 1, limit, most} {
			for _, delay := range []int{0, 1, 2, 3, 100, limit - 2, limit - 1, limit} {
				delays := [3]int{others, others, others}
				delays[class] = delay
				on.Class = class
				for since := max(delay-1, 1); since <= min(delay+1, limit); since++ {
					r := quiet(20)
					r.Since = since - 1
					answers(t, r, on, delays, false, api.Track{Axle: api.Axle{Had: true, In: 21, Out: 20}, Since: since, Call: since > delay})
				}
			}
		}
	}
}

// P12.1: Call of each delay at each Since; a clear track calls at none, one with a Fault at each.
func TestCallOfEachDelay(t *testing.T) {
	for _, delay := range []int{least, least + 1, -1, 0, 1, 2, limit - 1, limit, limit + 1, most - 1, most} {
		for class := range 3 {
			for _, since := range sinces {
				delays := [3]int{-delay, -delay, -delay}
				delays[class] = delay
				r := quiet(20)
				r.Since = since[0]
				c := same(20)
				c.Class = class
				answers(t, r, c, delays, false, quiet(20))
				c.In++
				answers(t, r, c, delays, false, api.Track{Axle: api.Axle{Had: true, In: 21, Out: 20}, Since: since[1], Call: since[1] > delay})
				c.Out += 2
				answers(t, r, c, delays, false, api.Track{Axle: api.Axle{Had: true, In: 21, Out: 22, Wrong: true}, Since: since[1], Fault: true, Call: true})
			}
		}
	}
	// 2^30 ticks are as many as are counted: a delay of so many is never over.
	r := track.Step(api.Track{Axle: quiet(1).Axle, Since: limit}, api.Counts{Fresh: true, In: 2, Out: 1}, [3]int{limit, 0, 0}, false)
	if r.Call || r.Since != limit {
		t.Errorf("%+v", r)
	}
}

// P12.1: of a class that is none the delay is 0: it calls at once, whatever the delays are.
func TestCallOfNoClass(t *testing.T) {
	for _, class := range []int{-1, -2, -3, 3, 4, 5, 255, 256, 1 << 32, 1<<32 + 1, -1 << 32, least, least + 1, most, most - 1} {
		for _, delays := range [][3]int{{}, late, {5, 5, 5}, {-1, -1, -1}, {least, least, least}} {
			for _, since := range sinces {
				r := quiet(20)
				r.Since = since[0]
				c := same(20)
				c.Class = class
				answers(t, r, c, delays, false, quiet(20))
				c.In++
				answers(t, r, c, delays, false, api.Track{Axle: api.Axle{Had: true, In: 21, Out: 20}, Since: since[1], Call: true})
				c.Fresh = false
				answers(t, r, c, delays, false, api.Track{Axle: r.Axle, Since: since[1], Fault: true, Call: true})
			}
		}
	}
}

// P12.1: the class is that of this tick's counts: it may change from tick to tick.
func TestClassOfTheTick(t *testing.T) {
	r := quiet(20)
	for i, x := range []struct {
		class int
		call  bool
	}{{0, false}, {2, true}, {0, false}, {1, true}, {0, false}, {0, true}, {3, true}, {1, true}} {
		c := api.Counts{Fresh: true, In: 22, Out: 20, Class: x.class}
		r = track.Step(r, c, [3]int{5, 3, 1}, false)
		if r.Call != x.call || r.Since != i+1 {
			t.Fatalf("%d: %+v", i, r)
		}
	}
}

// P12.1: Clear, Fault and Call of the track that is handed in do not matter.
func TestWhatWasSaidDoesNotMatter(t *testing.T) {
	d := dice(2)
	for range 20000 {
		r := d.track()
		c, delays, reset := d.counts(r), d.delays(), d.bool()
		want := model(r, c, delays, reset)
		for i := range 8 {
			r.Clear, r.Fault, r.Call = i&1 > 0, i&2 > 0, i&4 > 0
			answers(t, r, c, delays, reset, want)
		}
	}
}

// P12.1: all of it by dice: one step each, and long runs.
func TestStepsByDice(t *testing.T) {
	d := dice(3)
	for range 200000 {
		r := d.track()
		holds(t, r, d.counts(r), d.delays(), d.seldom())
	}
	for range 300 {
		r := d.track()
		want := r
		delays := d.delays()
		for range 300 {
			c, reset := d.counts(r), d.seldom()
			r, want = track.Step(r, c, delays, reset), model(want, c, delays, reset)
			if r != want {
				t.Fatalf("%+v, not %+v", r, want)
			}
		}
	}
}

// P12.1: each thing beside each other, on short lists of all arguments.
func TestAllTogether(t *testing.T) {
	tellings := []api.Counts{{}, {In: 4, Out: 4}}
	for _, in := range []int{3, 4, 5, 70} {
		for lie := range 4 {
			for _, class := range []int{-1, 0, 1, 2, 3} {
				tellings = append(tellings, api.Counts{Fresh: true, In: in, Out: 4, Lie: lie, Class: class})
			}
		}
	}
	for i := range 256 {
		r := api.Track{Axle: api.Axle{Had: i&1 > 0, In: 4 + i>>1&1, Out: 4, Wrong: i&4 > 0}, Pair: api.Pair{Lie: i >> 3 & 3, Jump: i&32 > 0}, Since: 3 * (i >> 6)}
		for _, c := range tellings {
			for _, reset := range []bool{false, true} {
				holds(t, r, c, [3]int{3, 6, 0}, reset)
			}
		}
	}
}

// P12.2: what is stale or wrong calls at once, from whatever the track was, and as long as it is so.
func TestStaleOrWrongCallsAtOnce(t *testing.T) {
	d := dice(4)
	for range 50000 {
		r := d.track()
		c := d.counts(r)
		got := track.Step(r, c, late, d.seldom())
		stale := !c.Fresh || got.Axle.Wrong || got.Pair.Jump
		if got.Fault != stale || stale && (!got.Call || got.Clear) {
			t.Fatalf("Step(%+v, %+v): %+v", r, c, got)
		}
	}
	r := quiet(5)
	for i := 1; i <= 100; i++ {
		if r = track.Step(r, api.Counts{In: 5, Out: 5}, late, false); !r.Call || r.Clear || r.Since != i {
			t.Fatalf("%d: %+v", i, r)
		}
	}
	if r = track.Step(r, same(5), late, false); r != quiet(5) {
		t.Fatalf("%+v", r)
	}
}

// ride drives a train of axles, of a class, over a track from the place start of its counters on, and tells what was amiss.
func ride(start, axles, class int, delays [3]int) string {
	r := track.Step(api.Track{}, api.Counts{Fresh: true, In: start, Out: start, Class: class}, delays, false)
	if !r.Clear || r.Call || r.Fault || r.Since != 0 {
		return "not clear ahead of it"
	}
	tick := 0
	tell := func(in, out, lie int) bool {
		tick++
		r = track.Step(r, api.Counts{Fresh: true, In: start + in, Out: start + out, Class: class, Lie: lie}, delays, false)
		return !r.Clear && !r.Fault && r.Since == tick && r.Call == (tick > delays[class])
	}
	for in := range axles {
		for quarter, lie := range [...]int{1, 3, 2, 0} {
			if !tell(in+(quarter+1)/4, 0, lie) {
				return "as it goes in"
			}
		}
	}
	for out := range axles {
		if !tell(axles, out, 0) {
			return "as it comes out"
		}
	}
	r = track.Step(r, api.Counts{Fresh: true, In: start + axles, Out: start + axles, Class: class}, delays, false)
	if !r.Clear || r.Call || r.Fault || r.Since != 0 || pair.Axles(r.Pair) != axles {
		return "not clear behind it"
	}
	return ""
}

// P12.2: a train of 1 to 64 axles, of each class, calls from its delay on as long as the track is not clear, which it is ahead of it and behind it: from each place of the counters on.
func TestTrains(t *testing.T) {
	for start := range 256 {
		for axles := 1; axles <= 64; axles++ {
			delay := []int{0, 1, 4, 5, 4*axles - 1, 5*axles - 2, 5*axles - 1, 5 * axles, limit, most, -1, least}[(start+axles)%12]
			for class := range 3 {
				delays := [3]int{7, 7, 7}
				delays[class] = delay
				if amiss := ride(start, axles, class, delays); amiss != "" {
					t.Fatalf("%d axles of class %d from %d on, of delays %d: %s", axles, class, start, delays, amiss)
				}
			}
		}
	}
}

// P12.2: a train whose axles all come within a tick, and all go within one, from each place on.
func TestTrainsAtOnce(t *testing.T) {
	for start := range 256 {
		for axles := 1; axles <= 64; axles++ {
			for class := range 3 {
				r := quiet(start)
				delays := [3]int{2, 4, 6}
				for tick := 1; tick <= 8; tick++ {
					r = track.Step(r, api.Counts{Fresh: true, In: (start + axles) % 256, Out: start, Class: class}, delays, false)
					if r.Clear || r.Fault || r.Call != (tick > 2*class+2) {
						t.Fatalf("%d axles from %d on, tick %d: %+v", axles, start, tick, r)
					}
				}
				if r = track.Step(r, same((start+axles)%256), delays, false); r != quiet((start+axles)%256) {
					t.Fatalf("%d axles from %d on: %+v", axles, start, r)
				}
			}
		}
	}
}

// W2: what is asked of one track between does not change what is told of another.
func TestAnswersHangOnNothingElse(t *testing.T) {
	d := dice(5)
	for range 5000 {
		r, other := d.track(), d.track()
		c, delays, reset := d.counts(r), d.delays(), d.bool()
		first := track.Step(r, c, delays, reset)
		track.Step(track.Step(other, d.counts(other), d.delays(), true), d.counts(other), d.delays(), false)
		answers(t, r, c, delays, reset, first)
	}
}
