package control_test

import (
	"testing"

	"crossbuck/api"
	"crossbuck/delay"
	"crossbuck/store"
)

// A train comes from where it strikes in, stops at its signal, if it must, passes the crossing, and is gone.
type train struct {
	class, speed int
	far          int // centimetres from its front to the crossing; below 0 within it, or beyond
	length       int // centimetres, with the crossing's
	axles        int
	in, out      int // axles that are counted
	passed       bool
}

// gone tells whether its end is beyond the crossing.
func (x *train) gone() bool {
	return x.far <= -x.length
}

// within tells whether it is on the crossing, its front or what is behind it.
func (x *train) within() bool {
	return x.far <= 0 && !x.gone()
}

// A scene is a world of trains, barriers and telegrams, around a controller that may die, and begin again.
type scene struct {
	*rig
	*dice
	trains   []*train // by track; nil, where there is none
	seen     []int    // by track, how many ticks ago its signal showed clear
	downFor  int      // ticks for which the barriers were down
	alive    bool     // a controller is there
	gap      int      // ticks till one begins again
	pools    []int    // that one may be given
	loss     int      // of so many telegrams one is lost, and one spoilt; 0: none
	restless bool     // never comes to rest
	calming  bool     // no train comes any more
	quiet    int      // ticks for which all was quiet
	resets   int      // ticks for which the mode is ModeReset still
	bound    int
	had      bool       // a whole record was written
	rec      api.Record // the last one
	watch
	passed, opens, begins, deaths, overridden, clears int
}

// A watch keeps in mind what one controller told.
type watch struct {
	ticks  int // since it began
	proven int // for which a telegram of the very tick told that the barriers are down
	was    api.Lights
	open   int // ticks for which the road is open
	amber  int // for which amber showed, and red behind it
	red    int
	entry  int  // for which the entry barriers are told down
	opened bool // it was open since this one began: what was ahead of lowering is known
}

// scenery is a crossing of short ways, which trains cover in few ticks.
func (d *dice) scenery() api.Config {
	of := func(n int) int { return 1 + d.below(n) }
	c := api.Config{Times: api.Times{Amber: of(5), Red: of(5), Entry: of(5), Travel: of(8), Prove: of(7), Open: of(20), Override: of(20), Fresh: d.one(of(5), of(5), 20, 40), Approach: of(25), Warn: of(15)}}
	for range d.one(1, 2, 2, 3, 8) {
		signal := d.one(1, of(30), of(300))
		c.Lines = append(c.Lines, api.Line{Strike: signal + of(200), Signal: signal, Speeds: [3]int{of(10), of(60), of(300)}})
	}
	return c
}

// stage is a scene over a blank store.
func (d *dice) stage(t *testing.T, start uint64, loss int, pools ...int) *scene {
	t.Helper()
	c := d.scenery()
	bound, err := delay.Bound(c)
	if err != nil {
		t.Fatal(err)
	}
	w := &scene{rig: over(t, c, bytesOf(store.New(d.one(22, 23, 40, 200))), start, pools[0]), dice: d, alive: true, pools: pools, loss: loss, bound: bound}
	w.trains = make([]*train, len(c.Lines))
	for range c.Lines {
		w.seen = append(w.seen, 1<<40)
	}
	return w
}

// tick goes on by one tick.
func (w *scene) tick() {
	w.t.Helper()
	w.world.Barrier = w.g.told()
	w.downFor++
	if w.world.Barrier != down {
		w.downFor = 0
	}
	w.change()
	w.live()
	list := w.telegrams()
	out := stop
	if w.alive {
		out = w.hand(w.lossy(list))
		w.survey(out)
	}
	w.g.move(out.Lights)
	for i := range w.trains {
		w.seen[i]++
		if out.Signals>>i&1 == 1 {
			w.seen[i] = 0
			w.clears++
		}
		w.run(i)
	}
	w.safe()
	w.rest(out)
}

// change changes what is around: routes are asked for, and things go wrong.
func (w *scene) change() {
	in := &w.world
	if w.quiet > 0 {
		in.Routes, in.Mode, in.Lamps, in.Mains = 0, 0, true, true
		in.Obstacle = in.Obstacle != w.rarely(10)
		return
	}
	in.Lamps, in.Mains = w.turn(in.Lamps, true), w.turn(in.Mains, true)
	in.Obstacle = in.Obstacle != w.rarely(20)
	in.Mode = 0
	switch {
	case w.resets > 0:
		w.resets--
		in.Mode = api.ModeReset
	case w.latched() && w.rarely(15):
		w.resets = 3 + w.below(10)
	case w.rarely(100):
		in.Mode = api.ModeClose
	}
	if w.rarely(6) {
		w.route()
	}
}

// latched tells whether a track went wrong for good.
func (w *scene) latched() bool {
	for _, x := range w.m.tracks {
		if x.Axle.Wrong || x.Pair.Jump {
			return true
		}
	}
	return false
}

// route asks for the routes of trains that come, or of any.
func (w *scene) route() {
	w.world.Routes = 0
	for i, x := range w.trains {
		if x != nil && !x.passed && !w.rarely(6) || w.rarely(40) {
			w.world.Routes |= 1 << i
		}
	}
}

// lossy are telegrams some of which are lost, for some ticks too, and some of which are spoilt: cut off, or turned by no more bits than a sum tells for certain.
func (w *scene) lossy(list [][]byte) [][]byte {
	if w.loss == 0 || w.quiet > 0 {
		return list
	}
	var all [][]byte
	for _, b := range list {
		switch {
		case w.rarely(w.loss):
		case w.rarely(w.loss):
			at := w.below(len(b) - 1)
			b[at] ^= byte(1 + w.below(255))
			b[at+1] ^= byte(w.below(256))
			all = append(all, b)
		case w.rarely(4 * w.loss):
			all = append(all, b[:w.below(len(b)-2)], b)
		default:
			all = append(all, b)
		}
	}
	for _, ch := range channels(len(w.c.Lines)) {
		if w.mute[ch] {
			w.mute[ch] = !w.rarely(w.one(3, 10, 2*w.c.Times.Fresh))
		} else {
			w.mute[ch] = w.rarely(10 * w.loss)
		}
	}
	return all
}

// live lets a controller die, or be gone, and begin again.
func (w *scene) live() {
	w.t.Helper()
	if !w.alive {
		w.gap--
		if w.gap < 0 {
			w.again()
		}
		return
	}
	if w.quiet > 0 || w.loss == 0 {
		return
	}
	switch {
	case w.m.dead && w.rarely(8), w.rarely(300):
		if w.m.dead {
			w.deaths++
		}
		w.alive, w.gap = false, w.one(0, 0, 1, w.below(40))
		if w.gap == 0 {
			w.again()
		}
	case w.rarely(100):
		w.kill(w.below(60))
	}
}

// again begins anew: where the last whole record was, or lowering, with all signals at stop and nothing proved (T4).
func (w *scene) again() {
	w.t.Helper()
	w.revive()
	w.begin(w.m.now, w.pools[w.below(len(w.pools))])
	w.alive, w.watch = true, watch{}
	w.begins++
	want := 3
	if w.had && w.rec.Phase < 7 {
		want = [7]int{6, 1, 2, 3, 4, 5, 6}[w.rec.Phase]
	}
	s := w.k.State()
	if s.Road.Since != 1 || s.Road.Phase != want && s.Road.Phase != 7 || s.Road.Phase == 7 && w.m.timers >= 2 || s.Proved != 0 || s.Dead {
		w.t.Fatalf("begun behind %+v: %+v", w.rec, s)
	}
	for i, x := range s.Tracks {
		if x.Axle.Wrong != (w.rec.Wrong>>i&1 == 1) || x.Pair.Jump != (w.rec.Jump>>i&1 == 1) || s.Locks[i].Clear {
			w.t.Fatalf("begun behind %+v: %+v", w.rec, s)
		}
	}
}

// survey holds what a living controller told against the promises T3 to T5 and P26.5.
func (w *scene) survey(out api.Outputs) {
	w.t.Helper()
	if out.Dead {
		if out != stop {
			w.t.Fatalf("dead: %+v", out)
		}
		return
	}
	s := w.k.State()
	w.had, w.rec = true, api.Record{Phase: s.Road.Phase}
	for i, x := range s.Tracks {
		if x.Axle.Wrong {
			w.rec.Wrong |= 1 << i
		}
		if x.Pair.Jump {
			w.rec.Jump |= 1 << i
		}
	}
	w.ticks++
	w.proven++
	if !w.m.in.Sure || w.m.in.Barrier != down {
		w.proven = 0
	}
	if out.Signals != 0 && (w.ticks < w.c.Times.Prove || w.proven < w.c.Times.Prove || w.downFor < w.c.Times.Prove || s.Road.Phase != 5) {
		w.t.Fatalf("a signal shows clear at tick %d, %d of proof: %+v", w.ticks, w.proven, s)
	}
	if !out.Failed {
		w.lowering(out.Lights)
	}
}

// lowering holds T5.
func (w *scene) lowering(l api.Lights) {
	w.t.Helper()
	t, x := w.c.Times, &w.watch
	if l.EntryDown && !x.was.EntryDown && x.opened && (x.amber < t.Amber || x.red < t.Red) {
		w.t.Fatalf("lowered behind %d of amber and %d of red of %+v", x.amber, x.red, t)
	}
	if l.ExitDown && !x.was.ExitDown && x.opened && (x.entry < t.Entry || w.m.in.Obstacle && x.entry < t.Entry+t.Override) {
		w.t.Fatalf("exit barriers lowered behind %d ticks of %+v, obstacle %t", x.entry, t, w.m.in.Obstacle)
	}
	if l.ExitDown && !x.was.ExitDown && w.m.in.Obstacle {
		w.overridden++
	}
	if l != (api.Lights{}) && x.open > 0 && x.open < t.Open && !w.wrong() {
		w.t.Fatalf("open for %d ticks of %+v", x.open, t)
	}
	switch {
	case l == (api.Lights{}):
		*x = watch{ticks: x.ticks, proven: x.proven, open: x.open + 1, opened: true}
	case l.Amber:
		x.open, x.amber, x.red, x.entry = 0, x.amber+1, 0, 0
	case l.EntryDown:
		x.open, x.amber, x.red, x.entry = 0, 0, 0, x.entry+1
	case l.Bell:
		x.open, x.red = 0, x.red+1
	default:
		x.open, x.amber, x.red, x.entry = 0, 0, 0, 0
	}
	x.was = l
}

// wrong tells whether something is wrong that closes a road at once.
func (w *scene) wrong() bool {
	wrong := w.m.in.Mode == api.ModeClose || !w.m.in.Mains || !w.m.in.Lamps
	for _, x := range w.m.tracks {
		wrong = wrong || x.Fault
	}
	return wrong
}

// run lets the train of a track run for a tick, or lets one come.
func (w *scene) run(i int) {
	x, l, c := w.trains[i], w.c.Lines[i], &w.world.Tracks[i]
	if c.Lie != 0 {
		c.Lie = []int{1, 3, 0, 2}[c.Lie]
	}
	if x == nil {
		if !w.calming && w.rarely(30) {
			class := w.below(3)
			w.trains[i] = &train{class: class, speed: l.Speeds[class], far: l.Strike, length: 1 + w.below(200), axles: 1 + w.below(60)}
			c.Class = class
			c.Lie = w.one(0, 1)
		}
		return
	}
	if x.in < x.axles {
		n := min(x.axles-x.in, 1+w.below(60))
		x.in += n
		c.In = (c.In + n) % 256
	}
	next := x.far - w.one(x.speed, 1+w.below(x.speed))
	if !x.passed && next < l.Signal {
		x.passed = w.passes(i)
		if !x.passed {
			next = l.Signal
		}
	}
	x.far = next
	if x.gone() {
		n := min(x.axles-x.out, 1+w.below(60))
		x.out += n
		c.Out = (c.Out + n) % 256
		if x.out == x.axles {
			w.trains[i] = nil
			w.passed++
		}
	}
}

// passes tells whether a train that could passes its signal now: only if that showed clear within the last Approach ticks; it may well be the last of them.
func (w *scene) passes(i int) bool {
	x, seen := w.trains[i], w.seen[i]
	return x.in == x.axles && (seen < w.c.Times.Approach && w.rarely(6) || seen == w.c.Times.Approach)
}

// safe holds T1.
func (w *scene) safe() {
	w.t.Helper()
	for i, x := range w.trains {
		if x != nil && x.within() && (w.downFor < w.c.Times.Prove || w.g.told() != down) {
			w.t.Fatalf("T1: a train of track %d is at %d, the barriers are at %+v, down for %d ticks: %+v", i, x.far, w.g, w.downFor, w.k.State())
		}
	}
}

// rest lets the scene come to rest now and then, and holds T2.
func (w *scene) rest(out api.Outputs) {
	w.t.Helper()
	switch {
	case w.quiet == 0 && !w.calming:
		w.calming = !w.restless && w.rarely(500)
	case w.quiet == 0:
		if w.empty() {
			w.quiet = 1
			w.revive()
			w.mute = [16]bool{}
			if !w.alive || w.m.dead {
				w.again()
			}
		}
	case w.latched():
		// Not yet: it is to be reset first.
		w.quiet, w.resets = 0, w.c.Times.Fresh+3
	default:
		w.quiet++
		w.calm(out)
	}
}

// empty tells whether no train is there.
func (w *scene) empty() bool {
	for i, x := range w.trains {
		if x != nil || w.world.Tracks[i].Lie != 0 {
			return false
		}
	}
	return !w.latched()
}

// calm holds that the road is open behind so many quiet ticks as Bound tells, and stays so.
func (w *scene) calm(out api.Outputs) {
	w.t.Helper()
	if w.quiet <= w.bound {
		return
	}
	if out != (api.Outputs{}) || w.g.told() != up {
		w.t.Fatalf("T2: quiet for %d ticks, of %d: %+v, %+v, %+v", w.quiet-1, w.bound, out, w.g, w.k.State())
	}
	if w.quiet == w.bound+10 {
		w.quiet, w.calming = 0, false
		w.opens++
	}
}

// T1 to T5, by dice: trains come and go, telegrams are lost and spoilt, the store dies at any byte, controllers are gone, and begin again.
func TestScenes(t *testing.T) {
	d := dice(7)
	for _, loss := range []int{0, 400, 100, 30} {
		var passed, opens, begins, deaths, overridden, clears int
		for range 30 {
			w := d.stage(t, uint64(d.below(1000)), loss, 2, 3, 64)
			for range 3000 {
				w.tick()
			}
			passed, opens, begins, deaths = passed+w.passed, opens+w.opens, begins+w.begins, deaths+w.deaths
			overridden, clears = overridden+w.overridden, clears+w.clears
		}
		if passed < 300 || opens < 100 || loss > 0 && (begins < 300 || deaths < 100) || overridden < 50 || clears < 5000 {
			t.Errorf("dice that throw too little, one lost of %d: %d trains, %d rests, %d beginnings, %d deaths, %d overridden, %d clear", loss, passed, opens, begins, deaths, overridden, clears)
		}
	}
}

// T1, T3 to T5, by dice: timers are missing, now and then, and time ends: trains that are on the crossing then are safe.
func TestScenesThatFail(t *testing.T) {
	d := dice(8)
	passed, failed := 0, 0
	for i := range 60 {
		w := d.stage(t, end-uint64(d.below(1500)), 400, 2, 2, d.one(0, 1), 64)
		if i%3 > 0 {
			w = d.stage(t, end-uint64(d.below(1500)), 400, 2)
		}
		w.restless = true
		for range 1500 {
			w.tick()
			if w.m.r.Phase == 7 {
				failed++
			}
		}
		passed += w.passed
	}
	if passed < 500 || failed < 5000 {
		t.Errorf("dice that throw too little: %d trains, %d ticks of failing", passed, failed)
	}
}

// T4: one that begins at each tick of a train's coming and going, over a store that died at each byte of that tick's record, or not: no signal shows clear in its first ticks, and the train is safe.
func TestBeginAtEachTick(t *testing.T) {
	for at := range 60 {
		for after := range 13 {
			d := dice(1)
			w := d.stage(t, 0, 0, 2)
			w.restless = true
			for range at {
				w.tick()
			}
			if after < 12 {
				w.kill(after)
			}
			w.tick()
			w.again()
			for range 150 {
				w.tick()
			}
		}
	}
}
