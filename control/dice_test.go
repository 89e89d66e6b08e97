package control_test

import (
	"testing"

	"crossbuck/api"
	"crossbuck/store"
)

// dice are numbers that look like no rule, the same at each run.
type dice uint64

func (d *dice) below(n int) int {
	*d = *d*6364136223846793005 + 1442695040888963407
	return int(uint64(*d)>>33) % n
}

// rarely is true once in n times.
func (d *dice) rarely(n int) bool {
	return d.below(n) == 0
}

// one is one of these.
func (d *dice) one(list ...int) int {
	return list[d.below(len(list))]
}

// one64 is one of these.
func (d *dice) one64(list ...uint64) uint64 {
	return list[d.below(len(list))]
}

// row is so many bytes.
func (d *dice) row(n int) []byte {
	b := make([]byte, n)
	for i := range b {
		b[i] = byte(d.below(256))
	}
	return b
}

// turn is a thing that is good mostly: it goes wrong rarely, and is mended soon.
func (d *dice) turn(now, good bool) bool {
	if now == good {
		return now != d.rarely(150)
	}
	return now != d.rarely(6)
}

// stir changes the outer world a little: the barriers move as they are told, trains go in and come out.
func (d *dice) stir(r *rig) {
	w := &r.world
	r.g.move(lightsOf[r.m.r.Phase])
	w.Barrier = r.g.told()
	if d.rarely(40) {
		w.Barrier = []api.Barrier{up, down, between, half}[d.below(4)]
	}
	w.Lamps, w.Mains, w.Battery = d.turn(w.Lamps, true), d.turn(w.Mains, true), d.turn(w.Battery, true)
	w.Obstacle = d.turn(w.Obstacle, false)
	switch {
	case w.Mode != 0 && d.rarely(4):
		w.Mode = 0
	case d.rarely(60):
		w.Mode = d.one(0, 1, 2, 2, 2, 2)
	}
	if d.rarely(12) {
		w.Routes = d.one(0, 0, d.below(256), 1<<d.below(8), 1<<len(w.Tracks)-1)
	}
	for i := range w.Tracks {
		d.stirTrack(&w.Tracks[i])
	}
	for _, ch := range channels(len(w.Tracks)) {
		r.mute[ch] = d.turn(r.mute[ch], false)
	}
}

// stirTrack lets axles go in, or come out, over treadles.
func (d *dice) stirTrack(c *api.Counts) {
	switch {
	case c.In == c.Out && c.Lie == 0 && d.rarely(60):
		c.In, c.Class = (c.In+1+d.below(64))%256, d.below(3)
	case c.In != c.Out && d.rarely(15):
		c.Out = c.In
	case d.rarely(900):
		c.In, c.Out = d.below(256), d.below(256)
	}
	switch {
	case d.rarely(900):
		c.Lie = d.below(4)
	case c.Lie != 0 || d.rarely(60):
		c.Lie = []int{1, 3, 0, 2}[c.Lie]
	}
}

// spoilt are telegrams of which some are lost, torn, turned, told twice, or out of their order, with others among them.
func (d *dice) spoilt(list [][]byte) [][]byte {
	var all [][]byte
	for _, b := range list {
		switch d.below(60) {
		case 0:
		case 1:
			all = append(all, b[:d.below(len(b))])
		case 2:
			b[d.below(len(b))] ^= 1 << d.below(8)
			all = append(all, b)
		case 3:
			all = append(all, b, b)
		case 4:
			all = append([][]byte{b}, all...)
		case 5:
			all = append(all, b, nil, d.row(d.below(30)))
		case 6:
			all = append(all, b, sealed(d.below(20), d.below(256), d.row(d.below(20))))
		default:
			all = append(all, b)
		}
	}
	return all
}

// small is a crossing of small times, mostly.
func (d *dice) small() api.Config {
	c := crossing(1 + d.below(8))
	most := d.one(3, 9, 9, 30)
	for _, n := range timesOf(&c.Times) {
		*n = 1 + d.below(most)
	}
	return c
}

// P26.2, P26.3, P26.5, T3: by dice over crossings, telegrams that are lost or spoilt, stores that die at any byte, and controllers that begin again: what the document tells, told by the model; and the dice throw enough.
func TestDice(t *testing.T) {
	d := dice(3)
	var phases [8]int
	clear, died, begun := 0, 0, 0
	for range 500 {
		size := d.one(200, 200, 22, 23, 24, 40, 60, 21)
		start := uint64(0) - uint64(d.one(1, 100, 300, 1000, 1000, 1000))
		r := over(t, d.small(), bytesOf(store.New(size)), start, d.one(2, 2, 2, 2, 2, 2, 2, 64, 1, 0))
		for range 400 {
			d.stir(r)
			got := r.hand(d.spoilt(r.telegrams()))
			phases[r.m.r.Phase]++
			if got.Signals != 0 {
				clear++
			}
			if d.rarely(200) {
				r.kill(d.below(80))
			}
			if got.Dead && d.rarely(10) || d.rarely(400) {
				if got.Dead {
					died++
				}
				begun++
				if !d.rarely(10) {
					r.revive()
				}
				r.begin(d.one64(r.m.now, 0, end-uint64(d.below(300)), 1<<63), d.one(2, 2, 2, 2, 2, 2, 2, 64, 1, 0))
			}
		}
	}
	for p, n := range phases {
		if n < 1000 {
			t.Errorf("dice that throw too little: %d ticks in phase %d", n, p)
		}
	}
	if clear < 1000 || died < 100 || begun < 300 {
		t.Errorf("dice that throw too little: %d, %d, %d", clear, died, begun)
	}
}
