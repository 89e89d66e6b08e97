package clock_test

import (
	"math/big"
	"testing"

	"crossbuck/api"
	"crossbuck/clock"
)

const full uint64 = api.MaxTick

// times are the ends of times, each bit of them alone, one more and one less, and others that look like no rule.
func times() []uint64 {
	all := []uint64{0, 1, 2, 9, 100, full, full - 1, full - 2, full - 100, full / 2, full/2 + 1, full / 3, api.MaxInt, 1 << 63}
	for i := range 64 {
		bit := uint64(1) << i
		all = append(all, bit, bit-1, bit+1, ^bit)
	}
	x := uint64(4711)
	for range 100 {
		x = x*6364136223846793005 + 1442695040888963407
		all = append(all, x)
	}
	return all
}

// bounded is n, but no less than 0 and no more than MaxTick: it goes by numbers of any width, which do not go round.
func bounded(n *big.Int) uint64 {
	if n.Sign() < 0 {
		return 0
	}
	if !n.IsUint64() {
		return full
	}
	return n.Uint64()
}

func wide(n uint64) *big.Int {
	return new(big.Int).SetUint64(n)
}

// P4.1: sums that are known: of nothing, ahead of MaxTick, of just MaxTick, of one more, of twice MaxTick.
func TestAddKnown(t *testing.T) {
	for _, x := range []struct{ a, b, want uint64 }{
		{0, 0, 0},
		{0, 1, 1},
		{2, 3, 5},
		{6000, 6000, 12000},
		{1 << 32, 1 << 32, 1 << 33},
		{full, 0, full},
		{full - 1, 0, full - 1},
		{full - 2, 1, full - 1},
		{full - 1, 1, full},
		{full - 100, 100, full},
		{full / 2, full/2 + 1, full},
		{full, 1, full},
		{full - 1, 2, full},
		{full - 100, 101, full},
		{1 << 63, 1 << 63, full},
		{1 << 63, 1<<63 - 1, full},
		{full, full - 1, full},
		{full, full, full},
	} {
		if got := clock.Add(x.a, x.b); got != x.want {
			t.Errorf("Add(%d, %d): %d, not %d", x.a, x.b, got, x.want)
		}
		if got := clock.Add(x.b, x.a); got != x.want {
			t.Errorf("Add(%d, %d): %d, not %d", x.b, x.a, got, x.want)
		}
	}
}

// P4.1: differences that are known: of nothing, of times that are the same, of a time that is later than now by one and by MaxTick.
func TestSinceKnown(t *testing.T) {
	for _, x := range []struct{ now, then, want uint64 }{
		{0, 0, 0},
		{1, 0, 1},
		{5, 3, 2},
		{7, 7, 0},
		{1 << 63, 1 << 63, 0},
		{full, full, 0},
		{full, 0, full},
		{full - 1, 0, full - 1},
		{full, 1, full - 1},
		{full, full - 1, 1},
		{1 << 63, 1<<63 - 1, 1},
		{0, 1, 0},
		{7, 8, 0},
		{full - 1, full, 0},
		{1<<63 - 1, 1 << 63, 0},
		{0, full, 0},
		{1, full, 0},
		{0, 1 << 63, 0},
	} {
		if got := clock.Since(x.now, x.then); got != x.want {
			t.Errorf("Since(%d, %d): %d, not %d", x.now, x.then, got, x.want)
		}
	}
}

// P4.1: all pairs of many times, by numbers that do not go round.
func TestAddAndSinceWide(t *testing.T) {
	for _, a := range times() {
		for _, b := range times() {
			if got, want := clock.Add(a, b), bounded(new(big.Int).Add(wide(a), wide(b))); got != want {
				t.Fatalf("Add(%d, %d): %d, not %d", a, b, got, want)
			}
			if got, want := clock.Since(a, b), bounded(new(big.Int).Sub(wide(a), wide(b))); got != want {
				t.Fatalf("Since(%d, %d): %d, not %d", a, b, got, want)
			}
		}
	}
}

// P4.1: around the bounds: as many ticks as there is room for, one fewer and one more; a time just behind another, the same, and just ahead of it.
func TestAddAndSinceAround(t *testing.T) {
	for _, a := range times() {
		room := full - a
		if got := clock.Add(a, room); got != full {
			t.Errorf("Add(%d, %d): %d, not MaxTick", a, room, got)
		}
		if room > 0 {
			if got := clock.Add(a, room-1); got != full-1 {
				t.Errorf("Add(%d, %d): %d, not one less than MaxTick", a, room-1, got)
			}
			if got := clock.Since(a+1, a); got != 1 {
				t.Errorf("Since(%d, %d): %d, not 1", a+1, a, got)
			}
			if got := clock.Since(a, a+1); got != 0 {
				t.Errorf("Since(%d, %d): %d, not 0", a, a+1, got)
			}
		}
		if room < full {
			if got := clock.Add(a, room+1); got != full {
				t.Errorf("Add(%d, %d): %d, not MaxTick", a, room+1, got)
			}
		}
		if got := clock.Since(a, a); got != 0 {
			t.Errorf("Since(%d, %d): %d, not 0", a, a, got)
		}
	}
}

// holds tells where a clock's time, or whether it is full, is not what it should be; asked more than once, for being asked changes nothing.
func holds(t *testing.T, name string, c *clock.Clock, want uint64) {
	t.Helper()
	for range 3 {
		if got := c.Now(); got != want {
			t.Fatalf("%s: Now: %d, not %d", name, got, want)
		}
		if got := c.Full(); got != (want == full) {
			t.Fatalf("%s: at %d: Full: %t", name, want, got)
		}
	}
}

// ticks calls Tick and holds its answer, and the time behind it, against what they should be.
func ticks(t *testing.T, name string, c *clock.Clock, want bool, time uint64) {
	t.Helper()
	if got := c.Tick(); got != want {
		t.Fatalf("%s: Tick to %d: %t", name, time, got)
	}
	holds(t, name, c, time)
}

// P4.2: a clock that begins at 0.
func TestFromNothing(t *testing.T) {
	c := clock.At(0)
	holds(t, "At(0)", c, 0)
	for n := range uint64(100000) {
		ticks(t, "At(0)", c, true, n+1)
	}
}

// P4.2: a clock that begins at any time is at it, and one tick later behind a Tick, if there is one later.
func TestFromAny(t *testing.T) {
	for _, start := range times() {
		c := clock.At(start)
		holds(t, "At", c, start)
		if start < full {
			ticks(t, "At", c, true, start+1)
		} else {
			ticks(t, "At", c, false, full)
		}
	}
}

// P4.2: the document's example: At(MaxTick) is full, and Tick tells false, however often.
func TestFromFull(t *testing.T) {
	c := clock.At(full)
	holds(t, "At(MaxTick)", c, full)
	for range 1000 {
		ticks(t, "At(MaxTick)", c, false, full)
	}
}

// P4.2: the one tick that fills a clock is true, those behind it are false, however often.
func TestFromOneLess(t *testing.T) {
	c := clock.At(full - 1)
	holds(t, "At(MaxTick - 1)", c, full-1)
	ticks(t, "At(MaxTick - 1)", c, true, full)
	for range 1000 {
		ticks(t, "At(MaxTick - 1)", c, false, full)
	}
}

// P4.2, P4.3: from some ticks ahead of being full to some ticks behind it: time does not go back, and Since tells how many ticks were.
func TestUntilFull(t *testing.T) {
	for ahead := range uint64(60) {
		start := full - ahead
		c := clock.At(start)
		last, were := start, uint64(0)
		for n := range ahead + 20 {
			told := c.Tick()
			if told != (n < ahead) {
				t.Fatalf("%d ahead: Tick %d: %t", ahead, n, told)
			}
			if told {
				were++
			}
			now := c.Now()
			if now < last {
				t.Fatalf("%d ahead: from %d back to %d", ahead, last, now)
			}
			last = now
			if got := clock.Since(now, start); got != were {
				t.Fatalf("%d ahead: Since: %d, not %d", ahead, got, were)
			}
			if got := clock.Add(start, n+1); got != now {
				t.Fatalf("%d ahead: Add: %d, not %d", ahead, got, now)
			}
			holds(t, "until full", c, now)
		}
	}
}

// P4.3: as many ticks were as Since tells, between any two times of a clock, wherever it began; the other way round Since tells 0.
func TestSinceOfTicks(t *testing.T) {
	for _, start := range []uint64{0, 1, 1<<32 - 30, 1<<63 - 30, full - 200, full - 61} {
		c := clock.At(start)
		seen := []uint64{c.Now()}
		for range 60 {
			c.Tick()
			seen = append(seen, c.Now())
		}
		for i, then := range seen {
			for j, now := range seen[i:] {
				if got := clock.Since(now, then); got != uint64(j) {
					t.Fatalf("from %d: %d ticks behind %d: Since: %d", start, j, then, got)
				}
				if got := clock.Since(then, now); got != 0 {
					t.Fatalf("from %d: %d ticks ahead of %d: Since: %d", start, j, now, got)
				}
			}
		}
	}
}

// P4.3: a long run counts just as many ticks as Since tells, also over the bounds of narrower numbers and up to MaxTick.
func TestLongRun(t *testing.T) {
	const many = 1 << 20
	for _, start := range []uint64{0, 1<<32 - many/2, 1<<63 - many/2, full - many} {
		c := clock.At(start)
		for n := range uint64(many) {
			if c.Full() || !c.Tick() || clock.Since(c.Now(), start) != n+1 {
				t.Fatalf("from %d: tick %d led to %d", start, n, c.Now())
			}
		}
		if got := c.Full(); got != (start == full-many) {
			t.Errorf("from %d: Full: %t", start, got)
		}
	}
}

// P4.2: clocks do not touch each other, also if they began at the same time, or one of them is full.
func TestClocksApart(t *testing.T) {
	for _, starts := range [][2]uint64{{0, 0}, {0, full}, {full, 0}, {full - 5, full - 5}, {7, 1 << 40}, {full, full}, {full - 3, full - 9}} {
		a, b := clock.At(starts[0]), clock.At(starts[1])
		for n := range uint64(20) {
			a.Tick()
			holds(t, "the one that ticks", a, clock.Add(starts[0], n+1))
			holds(t, "the one that stands", b, starts[1])
		}
		for n := range uint64(20) {
			b.Tick()
			holds(t, "the one that ticked", a, clock.Add(starts[0], 20))
			holds(t, "the one that ticks now", b, clock.Add(starts[1], n+1))
		}
		holds(t, "a third one", clock.At(starts[0]), starts[0])
	}
}

// P4.2: many clocks, made one behind the other and ticked by turns, keep a time each.
func TestManyClocks(t *testing.T) {
	starts := times()
	var all []*clock.Clock
	for i, start := range starts {
		all = append(all, clock.At(start))
		for range i % 7 {
			all[i].Tick()
		}
	}
	for i, c := range all {
		holds(t, "many", c, clock.Add(starts[i], uint64(i%7)))
	}
}
