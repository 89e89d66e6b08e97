package prove_test

import (
	"testing"

	"crossbuck/api"
	"crossbuck/prove"
)

const (
	least = api.MinInt
	most  = api.MaxInt
)

// dice are numbers that look like no rule, the same at each run.
type dice uint64

func (d *dice) bits() uint64 {
	*d = *d*6364136223846793005 + 1442695040888963407
	return uint64(*d)
}

func (d *dice) below(n int) int {
	return int(d.bits()>>33) % n
}

// number is one of any width and sign; every other one is of the greatest.
func (d *dice) number() int {
	high, low := d.bits(), d.bits()
	return int(high<<32^low>>16) >> (d.below(2) * d.below(64))
}

// near is a number around n, or any; it may go round.
func (d *dice) near(n int) int {
	if d.below(3) == 0 {
		return d.number()
	}
	return n + d.below(7) - 3
}

// downs are the barriers that are Down, each kind of them.
var downs = []api.Barrier{
	{EntryDown: true, ExitDown: true},
	{EntryDown: true, EntryUp: true, ExitDown: true},
	{EntryDown: true, ExitDown: true, ExitUp: true},
	{EntryDown: true, EntryUp: true, ExitDown: true, ExitUp: true},
}

// others are those that are not.
var others = []api.Barrier{
	{},
	{EntryDown: true},
	{EntryUp: true},
	{ExitDown: true},
	{ExitUp: true},
	{EntryDown: true, EntryUp: true},
	{EntryDown: true, ExitUp: true},
	{EntryUp: true, ExitDown: true},
	{EntryUp: true, ExitUp: true},
	{ExitDown: true, ExitUp: true},
	{EntryDown: true, EntryUp: true, ExitUp: true},
	{EntryUp: true, ExitDown: true, ExitUp: true},
}

// counts are numbers of ticks at which something changes, or nearly.
var counts = []int{least, least + 1, -6000, -2, -1, 0, 1, 2, 3, 4, 5, 6, 7, 100, 5998, 5999, 6000, 6001, 1 << 31, 1 << 32, most - 2, most - 1, most}

// model is what Step is to answer; its numbers have room above the greatest one of Step's.
func model(n int, down bool, least int) int {
	if !down {
		return 0
	}
	next, bound := uint64(1), uint64(1)
	if n > 0 {
		next = uint64(n) + 1
	}
	if least > 1 {
		bound = uint64(least)
	}
	if next > bound {
		return int(bound)
	}
	return int(next)
}

// steps holds a Step against what it is to answer, twice, as nothing is kept.
func steps(t *testing.T, n int, b api.Barrier, least, want int) {
	t.Helper()
	for range 2 {
		if got := prove.Step(n, b, least); got != want {
			t.Errorf("Step(%d, %+v, %d): %d, not %d", n, b, least, got, want)
		}
	}
}

// proves holds a Proved against what it is to answer.
func proves(t *testing.T, n, least int, want bool) {
	t.Helper()
	if got := prove.Proved(n, least); got != want {
		t.Errorf("Proved(%d, %d): %t", n, least, got)
	}
}

// P18.1: each Barrier, its fields told both ways, is in one of the two lists, and that once.
func TestLists(t *testing.T) {
	seen := map[api.Barrier]int{}
	for _, b := range append(append([]api.Barrier{}, downs...), others...) {
		seen[b]++
	}
	if len(seen) != 16 || len(downs) != 4 || len(others) != 12 {
		t.Errorf("%d of %d and %d", len(seen), len(downs), len(others))
	}
}

// P18.1: Down of each Barrier.
func TestDown(t *testing.T) {
	for _, b := range downs {
		if !prove.Down(b) {
			t.Errorf("Down(%+v): false", b)
		}
	}
	for _, b := range others {
		if prove.Down(b) {
			t.Errorf("Down(%+v): true", b)
		}
	}
}

// P18.1: the document's two examples.
func TestExamples(t *testing.T) {
	for _, b := range downs {
		steps(t, 3, b, 5, 4)
	}
	for _, b := range others {
		steps(t, 5, b, 5, 0)
	}
}

// P18.1: Step of a Barrier that is not Down is 0, whatever else it is told.
func TestStepNotDown(t *testing.T) {
	for _, b := range others {
		for _, n := range counts {
			for _, l := range counts {
				steps(t, n, b, l, 0)
			}
		}
	}
}

// P18.1: Step of each Barrier that is Down, told one by one.
func TestStepDown(t *testing.T) {
	for _, x := range []struct{ n, least, want int }{
		{least, 1, 1}, {least + 1, 1, 1}, {-2, 1, 1}, {-1, 1, 1}, {0, 1, 1}, {1, 1, 1}, {2, 1, 1}, {3, 1, 1}, {6000, 1, 1}, {most - 1, 1, 1}, {most, 1, 1},
		{least, 2, 1}, {least + 1, 2, 1}, {-2, 2, 1}, {-1, 2, 1}, {0, 2, 1}, {1, 2, 2}, {2, 2, 2}, {3, 2, 2}, {4, 2, 2}, {6000, 2, 2}, {most - 1, 2, 2}, {most, 2, 2},
		{least, 5, 1}, {least + 1, 5, 1}, {-2, 5, 1}, {-1, 5, 1}, {0, 5, 1}, {1, 5, 2}, {2, 5, 3}, {3, 5, 4}, {4, 5, 5}, {5, 5, 5}, {6, 5, 5}, {7, 5, 5}, {6000, 5, 5}, {most - 1, 5, 5}, {most, 5, 5},
		{least, 6000, 1}, {-1, 6000, 1}, {0, 6000, 1}, {1, 6000, 2}, {5997, 6000, 5998}, {5998, 6000, 5999}, {5999, 6000, 6000}, {6000, 6000, 6000}, {6001, 6000, 6000}, {12000, 6000, 6000}, {most - 1, 6000, 6000}, {most, 6000, 6000},
		{least, most - 1, 1}, {0, most - 1, 1}, {most - 3, most - 1, most - 2}, {most - 2, most - 1, most - 1}, {most - 1, most - 1, most - 1}, {most, most - 1, most - 1},
		{least, most, 1}, {least + 1, most, 1}, {-1, most, 1}, {0, most, 1}, {1, most, 2}, {6000, most, 6001}, {most - 3, most, most - 2}, {most - 2, most, most - 1}, {most - 1, most, most}, {most, most, most},
	} {
		for _, b := range downs {
			steps(t, x.n, b, x.least, x.want)
		}
	}
}

// P18.1: a least of 0, below it, and the least number that there is, counts as 1.
func TestStepLeastBelowOne(t *testing.T) {
	for _, l := range []int{0, -1, -2, -5, -6000, least + 2, least + 1, least} {
		for _, n := range counts {
			for _, b := range downs {
				steps(t, n, b, l, 1)
			}
		}
	}
}

// P18.1: each count beside each, and those around a least.
func TestStepEdges(t *testing.T) {
	for _, l := range counts {
		around := []int{l - 2, l - 1, l, l + 1, l + 2, l - 100, l + 100, -l}
		for _, n := range append(around, counts...) {
			for _, b := range downs {
				steps(t, n, b, l, model(n, true, l))
			}
			for _, b := range others {
				steps(t, n, b, l, 0)
			}
		}
	}
}

// P18.1: all small numbers beside each other.
func TestStepSmall(t *testing.T) {
	for n := -20; n <= 60; n++ {
		for l := -20; l <= 60; l++ {
			want := 1
			for range n {
				if want < l {
					want++
				}
			}
			for _, b := range downs {
				steps(t, n, b, l, want)
			}
		}
	}
}

// P18.1: Step and Proved by dice.
func TestDice(t *testing.T) {
	d := dice(1)
	for range 300000 {
		l := d.number()
		n := d.near(l)
		down := d.below(3) > 0
		b := others[d.below(len(others))]
		if down {
			b = downs[d.below(len(downs))]
		}
		if got, want := prove.Step(n, b, l), model(n, down, l); got != want {
			t.Fatalf("Step(%d, %+v, %d): %d, not %d", n, b, l, got, want)
		}
		proves(t, n, l, !(n < l || n < 1))
	}
}

// P18.1: Proved one below least, at it and one above.
func TestProvedAtLeast(t *testing.T) {
	for _, l := range []int{1, 2, 3, 5, 6000, 1 << 32, most - 1, most} {
		proves(t, l-1, l, false)
		proves(t, l, l, true)
		if l < most {
			proves(t, l+1, l, true)
		}
		proves(t, most, l, true)
		proves(t, 1, l, l == 1)
	}
}

// P18.1: no ticks, or less, prove nothing, whatever least is.
func TestProvedNothing(t *testing.T) {
	for _, n := range []int{0, -1, -2, -5, -6000, least + 1, least} {
		for _, l := range counts {
			proves(t, n, l, false)
		}
		proves(t, n, n, false)
	}
}

// P18.1: one tick is enough where least is less.
func TestProvedLeastBelowOne(t *testing.T) {
	for _, l := range []int{0, -1, -2, -5, -6000, least + 1, least} {
		for _, n := range []int{1, 2, 5, 6000, 1 << 32, most - 1, most} {
			proves(t, n, l, true)
		}
	}
}

// P18.1: what one row counts is nothing to another, stepped in turn with it.
func TestRowsApart(t *testing.T) {
	one, other := 0, 0
	for i := range 20 {
		one = prove.Step(one, downs[i%4], 50)
		other = prove.Step(other, others[i%12], 50)
		if one != i+1 || other != 0 {
			t.Fatalf("behind %d: %d and %d", i+1, one, other)
		}
	}
}

// row holds that along a row it is proved just where the last ticks, as many as are asked for, were all Down, and that the count is that of those since the last that was not.
func row(t *testing.T, barriers []api.Barrier, down []bool, least int) {
	t.Helper()
	asked := max(least, 1)
	n := 0
	for i, b := range barriers {
		n = prove.Step(n, b, least)
		since := 0
		for since <= i && down[i-since] {
			since++
		}
		if n != min(since, asked) {
			t.Fatalf("least %d, down %v: behind %d the count is %d", least, down, i, n)
		}
		all := i+1 >= asked
		for back := 0; all && back < asked; back++ {
			all = down[i-back]
		}
		if got := prove.Proved(n, least); got != all {
			t.Fatalf("least %d, down %v: behind %d proved is %t", least, down, i, got)
		}
	}
}

// P18.2: each row of up to eleven barriers, of several leasts, one of them greater than each row is long.
func TestRows(t *testing.T) {
	d := dice(2)
	for long := range 12 {
		for bits := range 1 << long {
			barriers, down := make([]api.Barrier, long), make([]bool, long)
			for i := range long {
				down[i] = bits>>i&1 > 0
				barriers[i] = others[d.below(len(others))]
				if down[i] {
					barriers[i] = downs[d.below(len(downs))]
				}
			}
			for _, l := range []int{least, -1, 0, 1, 2, 3, 7, long, long + 1, 12, 6000, most} {
				row(t, barriers, down, l)
			}
		}
	}
}

// P18.2: one row told tick by tick.
func TestRowToldOneByOne(t *testing.T) {
	yes, no := downs[0], others[1]
	n := 0
	for i, x := range []struct {
		b      api.Barrier
		count  int
		proved bool
	}{
		{no, 0, false}, {yes, 1, false}, {yes, 2, false}, {no, 0, false}, {yes, 1, false}, {yes, 2, false}, {yes, 3, true}, {yes, 3, true}, {yes, 3, true},
		{no, 0, false}, {no, 0, false}, {yes, 1, false}, {no, 0, false}, {yes, 1, false}, {yes, 2, false}, {yes, 3, true}, {no, 0, false},
	} {
		n = prove.Step(n, x.b, 3)
		if n != x.count || prove.Proved(n, 3) != x.proved {
			t.Errorf("tick %d: %d, %t", i, n, prove.Proved(n, 3))
		}
	}
}

// P18.2: the longest time that a crossing may ask for: one tick without it, at each of several places, and it begins anew.
func TestLongRows(t *testing.T) {
	const asked = api.MaxTime
	for _, gap := range []int{0, 1, 2, 100, asked - 2, asked - 1, asked, asked + 1} {
		n := 0
		for i := range 3 * asked {
			b, since := downs[i%4], i-gap
			if i == gap {
				b = others[i%12]
			}
			if i < gap {
				since = i + 1
			}
			n = prove.Step(n, b, asked)
			if n != min(since, asked) || prove.Proved(n, asked) != (since >= asked) {
				t.Fatalf("gap at %d, behind %d: %d, %t", gap, i, n, prove.Proved(n, asked))
			}
		}
	}
}

// P18.2: long rows by dice, mostly down.
func TestRowsByDice(t *testing.T) {
	d := dice(3)
	for range 2000 {
		long, often := d.below(80), 1+d.below(20)
		barriers, down := make([]api.Barrier, long), make([]bool, long)
		for i := range long {
			down[i] = d.below(often) > 0
			barriers[i] = others[d.below(len(others))]
			if down[i] {
				barriers[i] = downs[d.below(len(downs))]
			}
		}
		for _, l := range []int{0, 1, 2, 3, 7, 1 + d.below(40), long, long + 1, d.number()} {
			row(t, barriers, down, l)
		}
	}
}
