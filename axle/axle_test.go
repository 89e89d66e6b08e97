package axle_test

import (
	"testing"

	"crossbuck/api"
	"crossbuck/axle"
)

const (
	least = api.MinInt
	most  = api.MaxInt
)

// dice are numbers that look like no rule, the same at each run.
type dice uint64

func (d *dice) bits() uint64 {
	*d = *d*6364136223846793005 + 1442695040888963407
	return uint64(*d)
}

func (d *dice) below(n int) int {
	return int(d.bits()>>33) % n
}

// number is one of any width and sign; every other one is of the greatest.
func (d *dice) number() int {
	high, low := d.bits(), d.bits()
	return int(high<<32^low>>16) >> (d.below(2) * d.below(64))
}

// counter is a counter a little ahead of n, or far, with or without other bits than the eight that count.
func (d *dice) counter(n int) int {
	n += []int{0, 1, 63, 64, 65, 127, 128, 129, 192, 255, d.below(256), d.below(65)}[d.below(12)]
	if d.below(2) == 0 {
		return eight(n)
	}
	return d.number()&^255 | eight(n)
}

func (d *dice) axle() api.Axle {
	in := d.counter(d.number())
	return api.Axle{Had: d.below(3) > 0, In: in, Out: d.counter(in), Wrong: d.below(4) == 0}
}

// eight is the number of the eight lowest bits of n: a byte holds no more.
func eight(n int) int {
	return int(byte(n))
}

// from counts from one counter on to the other, one by one, till it is there.
func from(one, other int) int {
	n := 0
	for c := eight(one); c != eight(other); n++ {
		if c++; c == 256 {
			c = 0
		}
	}
	return n
}

// froms are the answers of from, of each counter to each.
var froms = func() (all [256][256]int) {
	for one := range 256 {
		for other := range 256 {
			all[one][other] = from(one, other)
		}
	}
	return all
}()

func onTo(one, other int) int {
	return froms[eight(one)][eight(other)]
}

// model is what Step is to answer.
func model(a api.Axle, in, out int) api.Axle {
	want := api.Axle{Had: true, In: eight(in), Out: eight(out), Wrong: a.Wrong}
	if a.Had && onTo(a.In, in) > 64 {
		want.Wrong = true
	}
	if a.Had && onTo(a.Out, out) > 64 {
		want.Wrong = true
	}
	if onTo(out, in) >= 128 {
		want.Wrong = true
	}
	return want
}

// holds holds a Step against the model, and that it did not change the counters handed in.
func holds(t *testing.T, a api.Axle, in, out int) {
	t.Helper()
	given := a
	if got, want := axle.Step(given, in, out), model(a, in, out); got != want {
		t.Errorf("Step(%+v, %d, %d): %+v, not %+v", a, in, out, got, want)
	}
	if given != a {
		t.Errorf("Step(%+v, %d, %d): the counters handed in are %+v", a, in, out, given)
	}
}

// tells holds On, Clear and Reset of a against what they are to answer, and that they did not change it.
func tells(t *testing.T, a api.Axle, on int) {
	t.Helper()
	given := a
	if got := axle.On(given); got != on {
		t.Errorf("On(%+v): %d, not %d", a, got, on)
	}
	if got, want := axle.Clear(given), a.Had && !a.Wrong && on == 0; got != want {
		t.Errorf("Clear(%+v): %t", a, got)
	}
	want := a
	if on == 0 {
		want.Wrong = false
	}
	if got := axle.Reset(given); got != want {
		t.Errorf("Reset(%+v): %+v, not %+v", a, got, want)
	}
	if given != a {
		t.Errorf("of %+v: the counters handed in are %+v", a, given)
	}
}

// highs are numbers whose eight lowest bits are 0, each of which is to be laid over the eight that count.
func highs() []int {
	all := []int{0, -256, -512, -1 << 31, -1 << 32, least, least + 256, most - 255, 768, 1<<32 - 256}
	for i := 8; i < 64; i++ {
		all = append(all, 1<<i)
	}
	return all
}

// edges are how far counters are ahead, at which something changes, or nearly.
var edges = []int{0, 1, 2, 63, 64, 65, 66, 126, 127, 128, 129, 191, 192, 193, 254, 255}

// starts are counters to begin from, so that edges ahead of some go round.
var starts = []int{0, 1, 63, 64, 65, 127, 128, 191, 192, 254, 255}

// P11.1: the document's example, and the steps of it.
func TestExample(t *testing.T) {
	a := axle.Step(api.Axle{}, 250, 250)
	if a != (api.Axle{Had: true, In: 250, Out: 250}) || axle.On(a) != 0 || !axle.Clear(a) {
		t.Errorf("250, 250: %+v", a)
	}
	a = axle.Step(a, 2, 250)
	if a != (api.Axle{Had: true, In: 2, Out: 250}) || axle.On(a) != 8 || axle.Clear(a) {
		t.Errorf("2, 250: %+v", a)
	}
	a = axle.Step(a, 2, 2)
	if a != (api.Axle{Had: true, In: 2, Out: 2}) || axle.On(a) != 0 || !axle.Clear(a) {
		t.Errorf("2, 2: %+v", a)
	}
}

// P11.1: steps told one by one: of counters that came, never came, were wrong.
func TestSteps(t *testing.T) {
	for _, x := range []struct {
		a       api.Axle
		in, out int
		wrong   bool
	}{
		{api.Axle{}, 0, 0, false},
		{api.Axle{}, 200, 200, false},
		{api.Axle{}, 255, 128, false},
		{api.Axle{}, 127, 0, false},
		{api.Axle{}, 128, 0, true},
		{api.Axle{}, 0, 1, true},
		{api.Axle{}, 0, 128, true},
		{api.Axle{}, 0, 129, false},
		{api.Axle{In: 7, Out: 7}, 200, 200, false},
		{api.Axle{In: 7, Out: 7, Wrong: true}, 7, 7, true},
		{api.Axle{Had: true}, 0, 0, false},
		{api.Axle{Had: true}, 64, 0, false},
		{api.Axle{Had: true}, 65, 0, true},
		{api.Axle{Had: true}, 64, 64, false},
		{api.Axle{Had: true}, 65, 65, true},
		{api.Axle{Had: true}, 65, 64, true},
		{api.Axle{Had: true}, 0, 64, true},
		{api.Axle{Had: true, In: 65}, 65, 64, false},
		{api.Axle{Had: true, In: 65}, 65, 65, true},
		{api.Axle{Had: true, In: 65}, 65, 66, true},
		{api.Axle{Had: true, In: 100, Out: 100}, 99, 99, true},
		{api.Axle{Had: true, In: 100, Out: 100}, 99, 100, true},
		{api.Axle{Had: true, In: 100, Out: 99}, 100, 98, true},
		{api.Axle{Had: true, In: 63, Out: 0}, 127, 0, false},
		{api.Axle{Had: true, In: 64, Out: 0}, 128, 0, true},
		{api.Axle{Had: true, In: 64, Out: 0}, 128, 1, false},
		{api.Axle{Had: true, In: 192, Out: 192}, 0, 0, false},
		{api.Axle{Had: true, In: 191, Out: 191}, 0, 0, true},
		{api.Axle{Had: true, In: 255, Out: 255}, 63, 63, false},
		{api.Axle{Had: true, In: 255, Out: 255}, 64, 64, true},
		{api.Axle{Had: true, In: 5, Out: 5, Wrong: true}, 5, 5, true},
		{api.Axle{Had: true, In: 5, Out: 5, Wrong: true}, 6, 6, true},
	} {
		if got := axle.Step(x.a, x.in, x.out); got != (api.Axle{Had: true, In: x.in, Out: x.out, Wrong: x.wrong}) {
			t.Errorf("Step(%+v, %d, %d): %+v", x.a, x.in, x.out, got)
		}
	}
}

// P11.1: 64 ahead is fine, 65 is too far, of in and of out, from each counter on; what never came is not too far from anything.
func TestHowFarAhead(t *testing.T) {
	for start := range 256 {
		for far := range 256 {
			to := (start + far) % 256
			for _, had := range []bool{false, true} {
				a := api.Axle{Had: had, In: start, Out: to}
				wrong := had && far > 64 || start != to && far > 127
				if got := axle.Step(a, to, to); got.Wrong != (had && far > 64) {
					t.Errorf("Step(%+v, %d, %d): %+v", a, to, to, got)
				}
				a = api.Axle{Had: had, In: start, Out: start}
				if got := axle.Step(a, to, start); got.Wrong != wrong {
					t.Errorf("Step(%+v, %d, %d): %+v", a, to, start, got)
				}
				a = api.Axle{Had: had, In: to, Out: start}
				if got := axle.Step(a, to, to); got.Wrong != (had && far > 64) {
					t.Errorf("Step(%+v, %d, %d): %+v", a, to, to, got)
				}
			}
		}
	}
}

// P11.1: in less out of 127 is fine, 128 is wrong, wherever out is, whether counters came or never did.
func TestInLessOut(t *testing.T) {
	for out := range 256 {
		for on := range 256 {
			in := (out + on) % 256
			for _, a := range []api.Axle{{}, {In: 77, Out: 200}, {Had: true, In: in, Out: out}} {
				want := api.Axle{Had: true, In: in, Out: out, Wrong: on >= 128}
				if got := axle.Step(a, in, out); got != want {
					t.Errorf("Step(%+v, %d, %d): %+v", a, in, out, got)
				}
			}
		}
	}
}

// P11.1: each edge of in and of out, together, from each start, of counters that came or never did, that were wrong or never.
func TestEdgesTogether(t *testing.T) {
	for _, inStart := range starts {
		for _, outStart := range starts {
			for _, inFar := range edges {
				for _, outFar := range edges {
					for i := range 4 {
						a := api.Axle{Had: i&1 > 0, In: inStart, Out: outStart, Wrong: i&2 > 0}
						holds(t, a, (inStart+inFar)%256, (outStart+outFar)%256)
					}
				}
			}
		}
	}
}

// P11.1: what was wrong stays so, whatever comes, and however well it goes on.
func TestWrongStays(t *testing.T) {
	a := axle.Step(api.Axle{}, 0, 1)
	if a != (api.Axle{Had: true, Out: 1, Wrong: true}) {
		t.Fatalf("%+v", a)
	}
	for i := range 1000 {
		n := (1 + i) % 256
		a = axle.Step(a, n, n)
		if a != (api.Axle{Had: true, In: n, Out: n, Wrong: true}) || axle.Clear(a) {
			t.Fatalf("%d: %+v", i, a)
		}
	}
	for _, had := range []bool{false, true} {
		for in := range 256 {
			for _, out := range edges {
				want := api.Axle{Had: true, In: in, Out: out, Wrong: true}
				if got := axle.Step(api.Axle{Had: had, In: in, Out: out, Wrong: true}, in, out); got != want {
					t.Errorf("%+v, not %+v", got, want)
				}
			}
		}
	}
}

// P11.1: other bits than the eight lowest of in, out, In and Out, in each by itself and in all; the answer has none of them.
func TestOtherBitsOfAStep(t *testing.T) {
	for _, high := range highs() {
		for _, x := range [][4]int{{0, 0, 0, 0}, {10, 10, 74, 74}, {10, 10, 75, 75}, {10, 10, 75, 10}, {63, 0, 127, 0}, {64, 0, 128, 0}, {250, 250, 2, 250}, {250, 250, 250, 251}, {255, 255, 255, 255}} {
			for _, had := range []bool{false, true} {
				want := model(api.Axle{Had: had, In: x[0], Out: x[1]}, x[2], x[3])
				for which := range 16 {
					y := x
					for i := range y {
						if which>>i&1 > 0 {
							y[i] |= high
						}
					}
					a := api.Axle{Had: had, In: y[0], Out: y[1]}
					if got := axle.Step(a, y[2], y[3]); got != want {
						t.Errorf("Step(%+v, %d, %d): %+v, not %+v", a, y[2], y[3], got, want)
					}
				}
			}
		}
	}
}

// P11.1: -1 and MaxInt are 255; -256, 256 and MinInt are 0: as in, out, In and Out, told one by one.
func TestEndsAsCounters(t *testing.T) {
	for _, x := range []struct {
		a       api.Axle
		in, out int
		want    api.Axle
	}{
		{api.Axle{}, -1, -1, api.Axle{Had: true, In: 255, Out: 255}},
		{api.Axle{}, most, -1, api.Axle{Had: true, In: 255, Out: 255}},
		{api.Axle{}, -1, most, api.Axle{Had: true, In: 255, Out: 255}},
		{api.Axle{}, -256, 256, api.Axle{Had: true}},
		{api.Axle{}, least, -256, api.Axle{Had: true}},
		{api.Axle{}, 256, least, api.Axle{Had: true}},
		{api.Axle{}, least, most, api.Axle{Had: true, Out: 255}},
		{api.Axle{}, most, least, api.Axle{Had: true, In: 255, Wrong: true}},
		{api.Axle{}, -1, 0, api.Axle{Had: true, In: 255, Wrong: true}},
		{api.Axle{}, 0, -1, api.Axle{Had: true, Out: 255}},
		{api.Axle{Had: true, In: -1, Out: -1}, 63, 63, api.Axle{Had: true, In: 63, Out: 63}},
		{api.Axle{Had: true, In: -1, Out: -1}, 64, 63, api.Axle{Had: true, In: 64, Out: 63, Wrong: true}},
		{api.Axle{Had: true, In: most, Out: most}, 63, 63, api.Axle{Had: true, In: 63, Out: 63}},
		{api.Axle{Had: true, In: most, Out: most}, 64, 64, api.Axle{Had: true, In: 64, Out: 64, Wrong: true}},
		{api.Axle{Had: true, In: least, Out: least}, 64, 64, api.Axle{Had: true, In: 64, Out: 64}},
		{api.Axle{Had: true, In: least, Out: least}, 65, 64, api.Axle{Had: true, In: 65, Out: 64, Wrong: true}},
		{api.Axle{Had: true, In: -256, Out: 256}, 64, 64, api.Axle{Had: true, In: 64, Out: 64}},
		{api.Axle{Had: true, In: 256, Out: -256}, 65, 65, api.Axle{Had: true, In: 65, Out: 65, Wrong: true}},
		{api.Axle{Had: true, In: least, Out: most}, most, least, api.Axle{Had: true, In: 255, Wrong: true}},
		{api.Axle{Had: true, In: most, Out: least}, least, most, api.Axle{Had: true, Out: 255, Wrong: true}},
		{api.Axle{Had: true, In: most, Out: most}, least, least, api.Axle{Had: true}},
		{api.Axle{Had: true, In: -1, Out: most}, most, -1, api.Axle{Had: true, In: 255, Out: 255}},
	} {
		if got := axle.Step(x.a, x.in, x.out); got != x.want {
			t.Errorf("Step(%+v, %d, %d): %+v, not %+v", x.a, x.in, x.out, got, x.want)
		}
	}
}

// P11.1: each of the ends in each place, beside each other.
func TestEndsTogether(t *testing.T) {
	ends := []int{-1, -256, -257, 0, 64, 65, 127, 128, 256, 257, least, least + 64, least + 65, most, most - 64, most - 65}
	for _, a := range ends {
		for _, b := range ends {
			for _, in := range ends {
				for _, out := range ends {
					for i := range 4 {
						holds(t, api.Axle{Had: i&1 > 0, In: a, Out: b, Wrong: i&2 > 0}, in, out)
					}
				}
			}
		}
	}
}

// P11.1: counters by dice, one step each, and long runs of them; P11.2 of what came of them.
func TestStepsByDice(t *testing.T) {
	d := dice(1)
	for range 200000 {
		a := d.axle()
		holds(t, a, d.counter(a.In), d.counter([]int{a.In, a.Out}[d.below(2)]))
		holds(t, a, d.number(), d.number())
	}
	for range 500 {
		a := d.axle()
		want := a
		for range 200 {
			in := a.In + d.below(d.below(66)+1)
			out := a.Out + min(d.below(d.below(66)+1), onTo(a.Out, in))
			a, want = axle.Step(a, in, out), model(want, in, out)
			if a != want {
				t.Fatalf("%+v, not %+v", a, want)
			}
			tells(t, a, onTo(a.Out, a.In))
		}
	}
}

// P11.2: On of each In and each Out is how many counts lie between, Out's going round too; Clear and Reset hang on it.
func TestOnOfAll(t *testing.T) {
	for in := range 256 {
		for out := range 256 {
			for i := range 4 {
				tells(t, api.Axle{Had: i&1 > 0, In: in, Out: out, Wrong: i&2 > 0}, onTo(out, in))
			}
		}
	}
}

// P11.2: On told one by one.
func TestOn(t *testing.T) {
	for _, x := range [][3]int{
		{0, 0, 0}, {1, 0, 1}, {0, 1, 255}, {127, 0, 127}, {128, 0, 128}, {255, 0, 255}, {0, 255, 1}, {2, 250, 8}, {126, 255, 127}, {127, 255, 128}, {255, 255, 0}, {200, 201, 255}, {100, 228, 128}, {100, 229, 127},
		{-1, 0, 255}, {0, -1, 1}, {-1, -1, 0}, {-256, 0, 0}, {0, -256, 0}, {256, -256, 0}, {256, 1, 255}, {257, 0, 1},
		{most, 0, 255}, {0, most, 1}, {most, most, 0}, {most, -1, 0}, {least, 0, 0}, {0, least, 0}, {least, most, 1}, {most, least, 255}, {least + 127, least, 127}, {least, least + 127, 129}, {least + 128, least, 128},
	} {
		for i := range 4 {
			tells(t, api.Axle{Had: i&1 > 0, In: x[0], Out: x[1], Wrong: i&2 > 0}, x[2])
		}
	}
}

// P11.2: other bits than the eight lowest of In, of Out, of both: On and Clear do not see them, Reset leaves them.
func TestOtherBitsOfTheRest(t *testing.T) {
	for _, high := range highs() {
		for _, x := range [][3]int{{0, 0, 0}, {9, 9, 0}, {10, 9, 1}, {9, 10, 255}, {127, 0, 127}, {0, 128, 128}, {255, 255, 0}, {2, 250, 8}} {
			for i := range 4 {
				for _, y := range [][2]int{{high, 0}, {0, high}, {high, high}, {high, ^high &^ 255}} {
					tells(t, api.Axle{Had: i&1 > 0, In: x[0] | y[0], Out: x[1] | y[1], Wrong: i&2 > 0}, x[2])
				}
			}
		}
	}
}

// P11.2: Clear told one by one: of what came, was never wrong, and of which all came out; of nothing else.
func TestClear(t *testing.T) {
	for _, x := range []struct {
		a     api.Axle
		clear bool
	}{
		{api.Axle{}, false},
		{api.Axle{Had: true}, true},
		{api.Axle{Wrong: true}, false},
		{api.Axle{Had: true, Wrong: true}, false},
		{api.Axle{Had: true, In: 1}, false},
		{api.Axle{Had: true, Out: 1}, false},
		{api.Axle{Had: true, In: 128}, false},
		{api.Axle{Had: true, In: 200, Out: 200}, true},
		{api.Axle{In: 200, Out: 200}, false},
		{api.Axle{Had: true, In: 256}, true},
		{api.Axle{Had: true, In: -1, Out: 255}, true},
		{api.Axle{Had: true, In: -1, Out: 255, Wrong: true}, false},
		{api.Axle{Had: true, In: least, Out: 512}, true},
	} {
		if got := axle.Clear(x.a); got != x.clear {
			t.Errorf("Clear(%+v): %t", x.a, got)
		}
	}
}

// P11.2: Reset told one by one: what never came loses Wrong as well, what has axles on keeps it, nothing else changes.
func TestReset(t *testing.T) {
	for _, x := range []struct{ a, want api.Axle }{
		{api.Axle{}, api.Axle{}},
		{api.Axle{Wrong: true}, api.Axle{}},
		{api.Axle{In: 3, Out: 3, Wrong: true}, api.Axle{In: 3, Out: 3}},
		{api.Axle{Had: true}, api.Axle{Had: true}},
		{api.Axle{Had: true, Wrong: true}, api.Axle{Had: true}},
		{api.Axle{Had: true, In: 1, Wrong: true}, api.Axle{Had: true, In: 1, Wrong: true}},
		{api.Axle{Had: true, Out: 1, Wrong: true}, api.Axle{Had: true, Out: 1, Wrong: true}},
		{api.Axle{Had: true, In: 1}, api.Axle{Had: true, In: 1}},
		{api.Axle{Had: true, In: 128, Wrong: true}, api.Axle{Had: true, In: 128, Wrong: true}},
		{api.Axle{Had: true, In: -1, Out: 255, Wrong: true}, api.Axle{Had: true, In: -1, Out: 255}},
		{api.Axle{Had: true, In: 1000, Out: 1000, Wrong: true}, api.Axle{Had: true, In: 1000, Out: 1000}},
		{api.Axle{Had: true, In: most, Out: -257, Wrong: true}, api.Axle{Had: true, In: most, Out: -257}},
		{api.Axle{In: least, Out: 1, Wrong: true}, api.Axle{In: least, Out: 1, Wrong: true}},
		{api.Axle{In: least, Out: 256, Wrong: true}, api.Axle{In: least, Out: 256}},
	} {
		if got := axle.Reset(x.a); got != x.want {
			t.Errorf("Reset(%+v): %+v, not %+v", x.a, got, x.want)
		}
	}
}

// P11.2: wrong counters count on when they were reset with no axle on: their track is clear then, and can be wrong again.
func TestResetAndOn(t *testing.T) {
	a := axle.Step(axle.Step(api.Axle{}, 10, 10), 80, 10)
	if !a.Wrong || axle.Clear(a) || axle.Reset(a) != a {
		t.Fatalf("70 at once: %+v", a)
	}
	a = axle.Step(axle.Step(a, 80, 70), 80, 80)
	if !a.Wrong || axle.Clear(a) {
		t.Fatalf("all out: %+v", a)
	}
	a = axle.Reset(a)
	if a != (api.Axle{Had: true, In: 80, Out: 80}) || !axle.Clear(a) {
		t.Fatalf("reset: %+v", a)
	}
	if a = axle.Step(a, 144, 80); a.Wrong || axle.On(a) != 64 {
		t.Fatalf("64 on: %+v", a)
	}
	if a = axle.Step(a, 144, 145); !a.Wrong || axle.On(a) != 255 {
		t.Fatalf("one out that was never in: %+v", a)
	}
}

// through drives axles over a track in steps of at most step, all in ahead of the first that comes out, and tells what was amiss.
func through(start, axles, step int) string {
	a := axle.Step(api.Axle{}, start, start)
	if !axle.Clear(a) {
		return "not clear ahead of it"
	}
	for in := 0; in < axles; {
		in = min(in+step, axles)
		a = axle.Step(a, start+in, start)
		if axle.Clear(a) || a.Wrong || axle.On(a) != in {
			return "as they go in"
		}
	}
	for out := 0; out < axles; {
		out = min(out+step, axles)
		a = axle.Step(a, start+axles, start+out)
		if axle.Clear(a) != (out == axles) || a.Wrong || axle.On(a) != axles-out {
			return "as they come out"
		}
	}
	return ""
}

// P11.3: 1 to 127 axles, in steps of at most 64, from each place on: not clear till all came out, and clear then.
func TestThrough(t *testing.T) {
	for start := range 256 {
		for axles := 1; axles <= 127; axles++ {
			for _, step := range []int{1, 5, 63, 64} {
				if amiss := through(start, axles, step); amiss != "" {
					t.Fatalf("%d axles from %d by %d: %s", axles, start, step, amiss)
				}
			}
		}
	}
}

// P11.3: some come out while others go in still: clear when as many are out as went in, and at no other time.
func TestThroughTogether(t *testing.T) {
	d := dice(3)
	for range 3000 {
		start, axles := d.below(256), 1+d.below(127)
		a := axle.Step(api.Axle{}, start, start)
		for in, out := 0, 0; out < axles; {
			in += min(d.below(65), axles-in)
			out += min(d.below(65), in-out)
			a = axle.Step(a, start+in, start+out)
			if a.Wrong || axle.On(a) != in-out || axle.Clear(a) != (in == out) {
				t.Fatalf("from %d, of %d axles %d in and %d out: %+v", start, axles, in, out, a)
			}
		}
	}
}

// P11.3: 128 axles are too many to be told from ones that came out and never went in: wrong, and never clear again by itself.
func TestTooManyAxles(t *testing.T) {
	for start := range 256 {
		a := axle.Step(axle.Step(api.Axle{}, start, start), start+64, start)
		a = axle.Step(a, start+127, start)
		if a.Wrong || axle.On(a) != 127 {
			t.Fatalf("127 from %d: %+v", start, a)
		}
		a = axle.Step(a, start+128, start)
		if !a.Wrong || axle.On(a) != 128 {
			t.Fatalf("128 from %d: %+v", start, a)
		}
		a = axle.Step(axle.Step(a, start+128, start+64), start+128, start+128)
		if axle.Clear(a) || !axle.Clear(axle.Reset(a)) {
			t.Fatalf("all out, from %d: %+v", start, a)
		}
	}
}

// W2: what one track's counters are asked between does not change what another's are told.
func TestAnswersHangOnNothingElse(t *testing.T) {
	d := dice(4)
	for range 2000 {
		a, b := d.axle(), d.axle()
		in, out := d.counter(a.In), d.counter(a.Out)
		first, on, clear, reset := axle.Step(a, in, out), axle.On(a), axle.Clear(a), axle.Reset(a)
		axle.Step(b, d.number(), d.number())
		axle.Reset(axle.Step(b, d.counter(b.In), d.counter(b.In)))
		if axle.Step(a, in, out) != first || axle.On(a) != on || axle.Clear(a) != clear || axle.Reset(a) != reset {
			t.Fatalf("of %+v another time", a)
		}
	}
}
