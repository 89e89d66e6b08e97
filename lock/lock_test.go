package lock_test

import (
	"math/big"
	"reflect"
	"slices"
	"testing"

	"crossbuck/api"
	"crossbuck/lock"
)

const (
	least = api.MinInt
	most  = api.MaxInt
)

// dice are numbers that look like no rule, the same at each run.
type dice uint64

func (d *dice) bits() uint64 {
	*d = *d*6364136223846793005 + 1442695040888963407
	return uint64(*d)
}

func (d *dice) below(n int) int {
	return int(d.bits()>>33) % n
}

// rarely is true once in n times.
func (d *dice) rarely(n int) bool {
	return d.below(n) == 0
}

// number is one of any width and sign; every other one is of the greatest.
func (d *dice) number() int {
	high, low := d.bits(), d.bits()
	return int(high<<32^low>>16) >> (d.below(2) * d.below(64))
}

// lock is one of any kind, mostly with a small Hold.
func (d *dice) lock() api.Lock {
	l := api.Lock{Clear: d.rarely(2), Hold: d.below(7) - 3}
	if d.rarely(3) {
		l.Hold = d.number()
	}
	return l
}

// numbers are those at which something changes, or nearly, and some between.
var numbers = []int{least, least + 1, least + 2, least + 3, least / 2, -1 << 32, -6000, -4, -3, -2, -1, 0, 1, 2, 3, 4, 5, 100, 5999, 6000, 6001, 1 << 31, 1 << 32, most / 2, most/2 + 1, most - 4, most - 3, most - 2, most - 1, most}

// bools are both.
var bools = []bool{false, true}

// holds holds a Hold against what it is to answer, twice, as nothing is kept.
func holds(t *testing.T, times api.Times, want int) {
	t.Helper()
	for range 2 {
		if got := lock.Hold(times); got != want {
			t.Fatalf("Hold(%+v): %d, not %d", times, got, want)
		}
	}
}

// steps holds a Step against what it is to answer, twice, as nothing is kept.
func steps(t *testing.T, l api.Lock, may bool, hold int, want api.Lock) {
	t.Helper()
	for range 2 {
		if got := lock.Step(l, may, hold); got != want {
			t.Fatalf("Step(%+v, %t, %d): %+v, not %+v", l, may, hold, got, want)
		}
	}
}

// locks holds a Locked against what it is to answer, and an Any of that signal alone.
func locks(t *testing.T, l api.Lock, want bool) {
	t.Helper()
	for range 2 {
		if got := lock.Locked(l); got != want {
			t.Fatalf("Locked(%+v): %t", l, got)
		}
	}
	anyOf(t, []api.Lock{l}, want)
}

// anyOf holds an Any against what it is to answer, and that it leaves the signals as they are.
func anyOf(t *testing.T, l []api.Lock, want bool) {
	t.Helper()
	before := slices.Clone(l)
	for range 2 {
		if got := lock.Any(l); got != want {
			t.Fatalf("Any(%+v): %t", l, got)
		}
	}
	if !slices.Equal(l, before) {
		t.Fatalf("Any changed %+v: %+v", before, l)
	}
}

// sum is a, b and 2 together, or the end of numbers that it would be beyond.
func sum(a, b int) int {
	s := new(big.Int).Add(big.NewInt(int64(a)), big.NewInt(int64(b)))
	s.Add(s, big.NewInt(2))
	if s.IsInt64() {
		return int(s.Int64())
	}
	if s.Sign() < 0 {
		return least
	}
	return most
}

// crossing are times as a crossing has them, no two the same.
func crossing() api.Times {
	return api.Times{Amber: 30, Red: 50, Entry: 80, Travel: 90, Prove: 5, Open: 100, Override: 600, Fresh: 20, Approach: 300, Warn: 350}
}

// P22.1: times that config takes, told one by one.
func TestHold(t *testing.T) {
	for _, x := range []struct{ approach, fresh, want int }{
		{1, 1, 4}, {1, 2, 5}, {2, 1, 5}, {2, 2, 6}, {1, 3, 6}, {3, 1, 6}, {10, 5, 17}, {5, 10, 17}, {300, 20, 322}, {20, 300, 322}, {600, 0, 602},
		{1, 6000, 6003}, {6000, 1, 6003}, {5999, 6000, 12001}, {6000, 5999, 12001}, {6000, 6000, 12002}, {255, 1, 258}, {1, 255, 258}, {4094, 2048, 6144},
	} {
		holds(t, api.Times{Approach: x.approach, Fresh: x.fresh}, x.want)
		times := crossing()
		times.Approach, times.Fresh = x.approach, x.fresh
		holds(t, times, x.want)
	}
	holds(t, crossing(), 322)
}

// P22.1: the times that config takes, some of each beside some of the other, and those just beyond.
func TestHoldOfCrossings(t *testing.T) {
	for approach := -3; approach <= api.MaxTime+3; approach += 1 + approach%7*approach%7 {
		for fresh := -3; fresh <= api.MaxTime+3; fresh += 59 {
			holds(t, api.Times{Approach: approach, Fresh: fresh}, approach+fresh+2)
			holds(t, api.Times{Approach: fresh, Fresh: approach}, approach+fresh+2)
		}
	}
}

// P22.1: no time at all, and times of 0 and below.
func TestHoldOfNothing(t *testing.T) {
	for _, x := range []struct{ approach, fresh, want int }{
		{0, 0, 2}, {0, 1, 3}, {1, 0, 3}, {0, 6000, 6002}, {6000, 0, 6002}, {-1, 0, 1}, {0, -1, 1}, {-1, -1, 0}, {-2, 0, 0}, {0, -2, 0}, {-2, -1, -1}, {-1, -2, -1}, {-2, -2, -2}, {-6000, 6000, 2}, {6000, -6000, 2}, {-6000, 1, -5997},
	} {
		holds(t, api.Times{Approach: x.approach, Fresh: x.fresh}, x.want)
	}
}

// P22.1: sums just below the greatest number, at it, and beyond.
func TestHoldGreatest(t *testing.T) {
	for _, x := range []struct{ approach, fresh, want int }{
		// By one of the two.
		{most - 4, 0, most - 2}, {most - 3, 0, most - 1}, {most - 2, 0, most}, {most - 1, 0, most}, {most, 0, most},
		{most - 5, 1, most - 2}, {most - 4, 1, most - 1}, {most - 3, 1, most}, {most - 2, 1, most}, {most - 1, 1, most}, {most, 1, most},
		{most - 6003, 6000, most - 1}, {most - 6002, 6000, most}, {most - 6001, 6000, most}, {most - 6000, 6000, most}, {most - 5999, 6000, most}, {most, 6000, most},
		// By both together.
		{most / 2, most/2 - 2, most - 1}, {most / 2, most/2 - 1, most}, {most / 2, most / 2, most}, {most/2 + 1, most / 2, most}, {most/2 + 1, most/2 + 1, most}, {most/2 - 2, most/2 - 2, most - 3},
		{most, most - 2, most}, {most, most - 1, most}, {most - 1, most - 1, most}, {most - 2, most - 2, most}, {most, most, most}, {most - 1, most - 2, most},
		// By the 2 alone.
		{most / 2, most/2 + 1, most}, {most - 1, 1, most}, {most - 6000, 6000, most}, {most, 0, most}, {most - 1, 0, most},
		// A time below 0 takes from the sum, however great the other is.
		{most, -1, most}, {most, -2, most}, {most, -3, most - 1}, {most, -4, most - 2}, {most - 1, -1, most}, {most - 1, -2, most - 1}, {most, -most, 2}, {most, least, 1}, {most - 1, least, 0}, {most - 2, least, -1},
	} {
		holds(t, api.Times{Approach: x.approach, Fresh: x.fresh}, x.want)
		holds(t, api.Times{Approach: x.fresh, Fresh: x.approach}, x.want)
	}
}

// P22.1, W7: sums around the least number; what would be below it is it, as there is none below.
func TestHoldLeast(t *testing.T) {
	for _, x := range []struct{ approach, fresh, want int }{
		{least, 0, least + 2}, {least, 1, least + 3}, {least, -1, least + 1}, {least, -2, least}, {least, -3, least}, {least, -4, least}, {least, -6000, least}, {least, least, least}, {least, least + 1, least},
		{least + 1, -1, least + 2}, {least + 1, -2, least + 1}, {least + 1, -3, least}, {least + 1, -4, least}, {least + 1, least + 1, least},
		{least / 2, least / 2, least + 2}, {least / 2, least/2 - 1, least + 1}, {least / 2, least/2 - 2, least}, {least / 2, least/2 - 3, least}, {least / 2, least/2 - 4, least},
	} {
		holds(t, api.Times{Approach: x.approach, Fresh: x.fresh}, x.want)
		holds(t, api.Times{Approach: x.fresh, Fresh: x.approach}, x.want)
	}
}

// P22.1: each number beside each, and those that take a sum to its ends.
func TestHoldEdges(t *testing.T) {
	for _, a := range numbers {
		others := slices.Clone(numbers)
		for k := -6; k <= 6; k++ {
			// These may go round, and are numbers like all others then.
			others = append(others, most-a+k, least-a+k, -a+k)
		}
		for _, b := range others {
			holds(t, api.Times{Approach: a, Fresh: b}, sum(a, b))
			holds(t, api.Times{Approach: b, Fresh: a}, sum(a, b))
		}
	}
}

// P22.1: no other field of the times matters, each told otherwise, one by one.
func TestHoldOtherFields(t *testing.T) {
	names := reflect.TypeFor[api.Times]()
	asked := 0
	for k := range names.NumField() {
		times := crossing()
		field := reflect.ValueOf(&times).Elem().Field(k)
		name := names.Field(k).Name
		for _, n := range numbers {
			field.SetInt(int64(n))
			switch name {
			case "Approach":
				holds(t, times, sum(n, 20))
			case "Fresh":
				holds(t, times, sum(300, n))
			default:
				holds(t, times, 322)
			}
		}
		if name == "Approach" || name == "Fresh" {
			asked++
		}
	}
	if asked != 2 {
		t.Errorf("%d fields", asked)
	}
}

// P22.1: Hold by dice, all fields of the times among them.
func TestHoldByDice(t *testing.T) {
	d := dice(1)
	for range 200000 {
		times := api.Times{
			Amber: d.number(), Red: d.number(), Entry: d.number(), Travel: d.number(), Prove: d.number(),
			Open: d.number(), Override: d.number(), Fresh: d.number(), Approach: d.number(), Warn: d.number(),
		}
		if d.rarely(3) {
			times.Approach = most - times.Fresh + d.below(9) - 6
		}
		holds(t, times, sum(times.Approach, times.Fresh))
	}
}

// P22.2: the document's example; and the same of one that is not clear.
func TestExample(t *testing.T) {
	steps(t, api.Lock{Clear: true, Hold: 3}, false, 0, api.Lock{Hold: 2})
	steps(t, api.Lock{Clear: true, Hold: 3}, false, 3, api.Lock{Hold: 2})
	steps(t, api.Lock{Hold: 3}, false, 9, api.Lock{Hold: 2})
}

// P22.2: a signal that may show clear does, and its Hold begins anew, whatever it was ahead of it.
func TestStepMay(t *testing.T) {
	for _, x := range []struct{ hold, want int }{
		{0, 0}, {1, 1}, {2, 2}, {3, 3}, {5, 5}, {322, 322}, {6000, 6000}, {12002, 12002}, {1 << 31, 1 << 31}, {1 << 32, 1 << 32}, {most - 1, most - 1}, {most, most},
		{-1, 0}, {-2, 0}, {-3, 0}, {-322, 0}, {-6000, 0}, {-1 << 32, 0}, {least + 2, 0}, {least + 1, 0}, {least, 0},
	} {
		around := []int{x.hold - 1, x.hold, x.hold + 1, -x.hold}
		for _, clear := range bools {
			for _, n := range append(around, numbers...) {
				steps(t, api.Lock{Clear: clear, Hold: n}, true, x.hold, api.Lock{Clear: true, Hold: x.want})
			}
		}
	}
}

// P22.2: one that may not does not, and its Hold is one less than it was, whatever it would be held for.
func TestStepNot(t *testing.T) {
	for _, x := range []struct{ was, want int }{
		{3, 2}, {2, 1}, {1, 0}, {0, 0}, {4, 3}, {5, 4}, {100, 99}, {256, 255}, {322, 321}, {6000, 5999}, {6001, 6000}, {12002, 12001}, {1 << 31, 1<<31 - 1}, {1 << 32, 1<<32 - 1}, {most - 1, most - 2}, {most, most - 1},
		{-1, 0}, {-2, 0}, {-3, 0}, {-322, 0}, {-6000, 0}, {-1 << 32, 0}, {least + 2, 0}, {least + 1, 0}, {least, 0},
	} {
		around := []int{x.was - 1, x.was, x.was + 1, -x.was}
		for _, clear := range bools {
			for _, hold := range append(around, numbers...) {
				steps(t, api.Lock{Clear: clear, Hold: x.was}, false, hold, api.Lock{Hold: x.want})
			}
		}
	}
}

// P22.2: Locked by being Clear, whatever its Hold is, and by its Hold alone.
func TestLocked(t *testing.T) {
	for _, n := range numbers {
		locks(t, api.Lock{Clear: true, Hold: n}, true)
	}
	for _, n := range []int{1, 2, 3, 5, 322, 6000, 12002, 1 << 31, 1 << 32, 1 << 62, most - 1, most} {
		locks(t, api.Lock{Hold: n}, true)
	}
	for _, n := range []int{0, -1, -2, -3, -5, -322, -6000, -1 << 31, -1 << 32, -1 << 62, least + 1, least} {
		locks(t, api.Lock{Hold: n}, false)
	}
	locks(t, api.Lock{}, false)
}

// P22.2, W5: no signals are not locked.
func TestAnyOfNone(t *testing.T) {
	anyOf(t, nil, false)
	anyOf(t, []api.Lock{}, false)
	anyOf(t, make([]api.Lock, 0, 8), false)
}

// free and held are signals that are not locked, and those that are: by both, by showing clear alone, and by their Hold alone.
var (
	free = []api.Lock{{}, {Hold: -1}, {Hold: -300}, {Hold: least}, {Hold: least + 1}}
	held = []api.Lock{{Clear: true, Hold: 5}, {Clear: true}, {Clear: true, Hold: -1}, {Clear: true, Hold: least}, {Hold: 1}, {Hold: 2}, {Hold: 322}, {Hold: most}}
)

// unlocked is a row of signals that are not locked, of each kind that there is.
func unlocked(long int) []api.Lock {
	l := make([]api.Lock, long)
	for i := range l {
		l[i] = free[i%len(free)]
	}
	return l
}

// P22.2: none of several, and just one of them, at each place.
func TestAnyOfOne(t *testing.T) {
	for long := range 20 {
		anyOf(t, unlocked(long), false)
		for place := range long {
			for _, h := range held {
				l := unlocked(long)
				l[place] = h
				anyOf(t, l, true)
			}
		}
	}
}

// P22.2: each set of up to eight signals, and all of many.
func TestAnyOfSets(t *testing.T) {
	d := dice(2)
	for long := range api.MaxTracks + 1 {
		for set := range 1 << long {
			l := make([]api.Lock, long)
			for i := range l {
				l[i] = free[d.below(len(free))]
				if set>>i&1 > 0 {
					l[i] = held[d.below(len(held))]
				}
			}
			anyOf(t, l, set > 0)
		}
	}
	for _, h := range held {
		anyOf(t, slices.Repeat([]api.Lock{h}, 1000), true)
	}
	for _, f := range free {
		many := slices.Repeat([]api.Lock{f}, 1000)
		anyOf(t, many, false)
		many[len(many)-1] = held[4]
		anyOf(t, many, true)
	}
}

// P22.2: Holds do not add up: neither do several below 0 take from one, nor some that wait make more of none.
func TestAnyAddsNothingUp(t *testing.T) {
	anyOf(t, []api.Lock{{Hold: 3}, {Hold: -3}}, true)
	anyOf(t, []api.Lock{{Hold: -3}, {Hold: 3}}, true)
	anyOf(t, []api.Lock{{Hold: 1}, {Hold: least}, {Hold: least}}, true)
	anyOf(t, []api.Lock{{Hold: most}, {Hold: 1}}, true)
	anyOf(t, []api.Lock{{Hold: least}, {Hold: least}}, false)
	anyOf(t, []api.Lock{{Hold: least}, {Hold: -1}}, false)
	anyOf(t, []api.Lock{{Clear: true}, {Clear: true}}, true)
}

// W6: what stands in the spare room of the signals is neither asked nor changed.
func TestAnySpareRoom(t *testing.T) {
	for _, beyond := range held {
		for long := range 5 {
			room := append(unlocked(long), beyond, beyond)
			before := slices.Clone(room)
			anyOf(t, room[:long], false)
			if !slices.Equal(room, before) {
				t.Fatalf("%+v is now %+v", before, room)
			}
		}
	}
	row := []api.Lock{held[0], free[0], held[1]}
	anyOf(t, row[1:2], false)
}

// P22.2: Step, Locked and Any by dice, against what the document says of them.
func TestDice(t *testing.T) {
	d := dice(3)
	for range 200000 {
		l, may, hold := d.lock(), d.rarely(2), d.number()
		if d.rarely(2) {
			hold = d.below(9) - 4
		}
		want := api.Lock{Clear: may, Hold: hold}
		if !may && l.Hold > least {
			want.Hold = l.Hold - 1
		}
		if want.Hold < 0 || !may && l.Hold == least {
			want.Hold = 0
		}
		steps(t, l, may, hold, want)
		locks(t, l, l.Clear || l.Hold > 0)
		row, some := make([]api.Lock, d.below(10)), false
		for i := range row {
			row[i] = d.lock()
			if d.rarely(2) {
				row[i] = free[d.below(len(free))]
			}
			some = some || row[i].Clear || row[i].Hold > 0
		}
		anyOf(t, row, some)
	}
}

// P22.3: one row told tick by tick, with a hold of 3.
func TestRowToldOneByOne(t *testing.T) {
	l := api.Lock{}
	for i, x := range []struct {
		may    bool
		want   api.Lock
		locked bool
	}{
		{false, api.Lock{}, false},
		{true, api.Lock{Clear: true, Hold: 3}, true}, {false, api.Lock{Hold: 2}, true}, {false, api.Lock{Hold: 1}, true}, {false, api.Lock{}, false}, {false, api.Lock{}, false},
		{true, api.Lock{Clear: true, Hold: 3}, true}, {true, api.Lock{Clear: true, Hold: 3}, true}, {false, api.Lock{Hold: 2}, true}, {true, api.Lock{Clear: true, Hold: 3}, true},
		{false, api.Lock{Hold: 2}, true}, {false, api.Lock{Hold: 1}, true}, {true, api.Lock{Clear: true, Hold: 3}, true}, {false, api.Lock{Hold: 2}, true}, {false, api.Lock{Hold: 1}, true}, {false, api.Lock{}, false},
		{true, api.Lock{Clear: true, Hold: 3}, true},
	} {
		l = lock.Step(l, x.may, 3)
		if l != x.want || lock.Locked(l) != x.locked {
			t.Errorf("tick %d: %+v, %t", i, l, lock.Locked(l))
		}
	}
}

// P22.3: behind the last tick in which it showed clear, a signal is locked as each of hold ticks more begins, and not longer; as the first one begins it is so for showing clear, whatever hold is.
func TestLockedForHold(t *testing.T) {
	for _, hold := range []int{0, 1, 2, 3, 7, 322, api.MaxTime, 2*api.MaxTime + 2} {
		for _, clear := range []int{1, 2, 3, 10} {
			l := api.Lock{}
			for range clear {
				l = lock.Step(l, true, hold)
				locks(t, l, true)
			}
			for k := 1; k <= hold+3; k++ {
				locks(t, l, k <= max(hold, 1))
				l = lock.Step(l, false, hold)
			}
			if l != (api.Lock{}) {
				t.Errorf("hold %d: %+v", hold, l)
			}
		}
	}
}

// P22.3: one that shows clear again just ahead of the end, at it, and behind it, is locked anew, for all of its time.
func TestLockedAnew(t *testing.T) {
	for _, hold := range []int{1, 2, 3, 10, 322} {
		for gap := range hold + 4 {
			l := lock.Step(api.Lock{}, true, hold)
			for range 3 {
				for k := 1; k <= gap; k++ {
					l = lock.Step(l, false, hold)
					locks(t, l, k < hold)
				}
				l = lock.Step(l, true, hold)
				if l != (api.Lock{Clear: true, Hold: hold}) {
					t.Fatalf("hold %d, gap %d: %+v", hold, gap, l)
				}
			}
			for k := 1; k <= hold+1; k++ {
				l = lock.Step(l, false, hold)
				locks(t, l, k < hold)
			}
		}
	}
}

// P22.3: rows by dice: behind a tick it is locked just where it shows clear, or did so fewer than hold ticks ago.
func TestRowsByDice(t *testing.T) {
	d := dice(4)
	for range 3000 {
		hold, often := d.below(25), 1+d.below(30)
		l, last := api.Lock{}, -1
		for i := range 100 {
			may := d.rarely(often)
			l = lock.Step(l, may, hold)
			if may {
				last = i
			}
			left := 0
			if last >= 0 {
				left = max(hold-(i-last), 0)
			}
			if l != (api.Lock{Clear: may, Hold: left}) || lock.Locked(l) != (may || left > 0) {
				t.Fatalf("hold %d: at %d, behind %d: %+v, %t", hold, i, last, l, lock.Locked(l))
			}
		}
	}
}

// P22.3: the signals of a crossing in turn: one is nothing to the other, and Any tells whether some train may still come.
func TestSignalsApart(t *testing.T) {
	d := dice(5)
	hold := lock.Hold(api.Times{Approach: 10, Fresh: 3})
	for range 300 {
		row := make([]api.Lock, 1+d.below(api.MaxTracks))
		last := make([]int, len(row))
		for i := range last {
			last[i] = -hold - 1
		}
		for tick := range 150 {
			some := false
			for i := range row {
				may := d.rarely(40)
				if may {
					last[i] = tick
				}
				row[i] = lock.Step(row[i], may, hold)
				some = some || tick-last[i] < hold
			}
			if lock.Any(row) != some {
				t.Fatalf("tick %d: %+v", tick, row)
			}
		}
	}
}
