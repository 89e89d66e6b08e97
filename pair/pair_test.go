package pair_test

import (
	"math/big"
	"testing"

	"crossbuck/api"
	"crossbuck/pair"
)

const (
	least = api.MinInt
	most  = api.MaxInt
)

// dice are numbers that look like no rule, the same at each run.
type dice uint64

func (d *dice) bits() uint64 {
	*d = *d*6364136223846793005 + 1442695040888963407
	return uint64(*d)
}

func (d *dice) below(n int) int {
	return int(d.bits()>>33) % n
}

// number is one of any width and sign; every other one is of the greatest.
func (d *dice) number() int {
	high, low := d.bits(), d.bits()
	return int(high<<32^low>>16) >> (d.below(2) * d.below(64))
}

// pos is a number, every other one at an end of numbers.
func (d *dice) pos() int {
	switch d.below(4) {
	case 0:
		return least + d.below(3)
	case 1:
		return most - d.below(3)
	}
	return d.number()
}

// What a step does.
const (
	stays = iota
	on
	back
	jumps
)

// kinds are what each step does: a row for each way to lie ahead of it, a column for each behind it.
var kinds = [4][4]int{
	{stays, on, back, jumps},
	{back, stays, jumps, on},
	{on, jumps, stays, back},
	{jumps, back, on, stays},
}

// round is how an axle lies that goes on, from each way to lie.
var round = [4]int{0: 1, 1: 3, 3: 2, 2: 0}

// reverse is how an axle lies that goes back, from each way to lie.
var reverse = [4]int{0: 2, 2: 3, 3: 1, 1: 0}

// lows is the number of the two lowest bits of lie, told by their places one by one.
func lows(lie int) int {
	n := 0
	if uint64(lie)%2 == 1 {
		n++
	}
	if uint64(lie)/2%2 == 1 {
		n += 2
	}
	return n
}

// model is what Step is to answer.
func model(p api.Pair, lie int) api.Pair {
	want := api.Pair{Lie: lows(lie), Pos: p.Pos, Jump: p.Jump}
	switch kinds[lows(p.Lie)][lows(lie)] {
	case on:
		if p.Pos != most {
			want.Pos = p.Pos + 1
		}
	case back:
		if p.Pos != least {
			want.Pos = p.Pos - 1
		}
	case jumps:
		want.Jump = true
	}
	return want
}

// holds holds a Step against the model, and that it did not change the pair handed in.
func holds(t *testing.T, p api.Pair, lie int) {
	t.Helper()
	in := p
	if got, want := pair.Step(in, lie), model(p, lie); got != want {
		t.Errorf("Step(%+v, %d): %+v, not %+v", p, lie, got, want)
	}
	if in != p {
		t.Errorf("Step(%+v, %d): the pair handed in is %+v", p, lie, in)
	}
}

// walked is the pair behind the steps.
func walked(p api.Pair, lies ...int) api.Pair {
	for _, lie := range lies {
		p = pair.Step(p, lie)
	}
	return p
}

// highs are numbers whose two lowest bits are 0, each of which is to be laid over the two that count.
func highs() []int {
	all := []int{0, 4, 8, 12, 96, 128, 252, 256, 1 << 16, 1 << 31, 1 << 32, 1<<32 - 4, 1 << 62, least, least + 4, most - 3, -4, -8, -256, -1 << 31, -1 << 32}
	for i := 2; i < 64; i++ {
		all = append(all, 1<<i)
	}
	return all
}

// P10.1: the document's examples.
func TestExamples(t *testing.T) {
	if got := walked(api.Pair{}, 1, 3, 2, 0); got != (api.Pair{Pos: 4}) {
		t.Errorf("1 3 2 0: %+v", got)
	}
	if got := pair.Step(api.Pair{}, 3); got != (api.Pair{Lie: 3, Jump: true}) {
		t.Errorf("3: %+v", got)
	}
}

// P10.1: each way to lie to each, of a pair that never jumped, and of one that did, told one by one.
func TestEachStep(t *testing.T) {
	for _, x := range []struct {
		from, to, pos int
		jump          bool
	}{
		{0, 0, 10, false}, {0, 1, 11, false}, {0, 2, 9, false}, {0, 3, 10, true},
		{1, 0, 9, false}, {1, 1, 10, false}, {1, 2, 10, true}, {1, 3, 11, false},
		{2, 0, 11, false}, {2, 1, 10, true}, {2, 2, 10, false}, {2, 3, 9, false},
		{3, 0, 10, true}, {3, 1, 9, false}, {3, 2, 11, false}, {3, 3, 10, false},
	} {
		if got := pair.Step(api.Pair{Lie: x.from, Pos: 10}, x.to); got != (api.Pair{Lie: x.to, Pos: x.pos, Jump: x.jump}) {
			t.Errorf("%d to %d: %+v", x.from, x.to, got)
		}
		if got := pair.Step(api.Pair{Lie: x.from, Pos: 10, Jump: true}, x.to); got != (api.Pair{Lie: x.to, Pos: x.pos, Jump: true}) {
			t.Errorf("%d to %d, jumped: %+v", x.from, x.to, got)
		}
	}
}

// P10.1: other bits than the two lowest in lie, in the pair's Lie and in both; the answer has none of them.
func TestOtherBitsOfAStep(t *testing.T) {
	for _, above := range highs() {
		for from := range 4 {
			for to := range 4 {
				for _, jumped := range []bool{false, true} {
					want := model(api.Pair{Lie: from, Pos: 10, Jump: jumped}, to)
					for _, x := range [][2]int{{from, above | to}, {above | from, to}, {above | from, above | to}, {above | from, ^above&^3 | to}} {
						p := api.Pair{Lie: x[0], Pos: 10, Jump: jumped}
						if got := pair.Step(p, x[1]); got != want {
							t.Errorf("Step(%+v, %d): %+v, not %+v", p, x[1], got, want)
						}
					}
				}
			}
		}
	}
}

// P10.1: -1 and MaxInt lie 3, MinInt lies 0: as lie, as the pair's Lie, and as both, told one by one.
func TestEndsAsWaysToLie(t *testing.T) {
	for _, x := range []struct {
		from, to int
		want     api.Pair
	}{
		{0, -1, api.Pair{Lie: 3, Pos: 10, Jump: true}}, {1, -1, api.Pair{Lie: 3, Pos: 11}}, {2, -1, api.Pair{Lie: 3, Pos: 9}}, {3, -1, api.Pair{Lie: 3, Pos: 10}},
		{0, most, api.Pair{Lie: 3, Pos: 10, Jump: true}}, {1, most, api.Pair{Lie: 3, Pos: 11}}, {2, most, api.Pair{Lie: 3, Pos: 9}}, {3, most, api.Pair{Lie: 3, Pos: 10}},
		{0, least, api.Pair{Pos: 10}}, {1, least, api.Pair{Pos: 9}}, {2, least, api.Pair{Pos: 11}}, {3, least, api.Pair{Pos: 10, Jump: true}},
		{-1, 0, api.Pair{Pos: 10, Jump: true}}, {-1, 1, api.Pair{Lie: 1, Pos: 9}}, {-1, 2, api.Pair{Lie: 2, Pos: 11}}, {-1, 3, api.Pair{Lie: 3, Pos: 10}},
		{most, 0, api.Pair{Pos: 10, Jump: true}}, {most, 1, api.Pair{Lie: 1, Pos: 9}}, {most, 2, api.Pair{Lie: 2, Pos: 11}}, {most, 3, api.Pair{Lie: 3, Pos: 10}},
		{least, 0, api.Pair{Pos: 10}}, {least, 1, api.Pair{Lie: 1, Pos: 11}}, {least, 2, api.Pair{Lie: 2, Pos: 9}}, {least, 3, api.Pair{Lie: 3, Pos: 10, Jump: true}},
		{-1, -1, api.Pair{Lie: 3, Pos: 10}}, {-1, most, api.Pair{Lie: 3, Pos: 10}}, {-1, least, api.Pair{Pos: 10, Jump: true}},
		{most, -1, api.Pair{Lie: 3, Pos: 10}}, {most, most, api.Pair{Lie: 3, Pos: 10}}, {most, least, api.Pair{Pos: 10, Jump: true}},
		{least, -1, api.Pair{Lie: 3, Pos: 10, Jump: true}}, {least, most, api.Pair{Lie: 3, Pos: 10, Jump: true}}, {least, least, api.Pair{Pos: 10}},
	} {
		if got := pair.Step(api.Pair{Lie: x.from, Pos: 10}, x.to); got != x.want {
			t.Errorf("%d to %d: %+v, not %+v", x.from, x.to, got, x.want)
		}
	}
}

// P10.1: Pos at the ends of numbers, and around 0: one on, one back, as it lay, both at once, from each way to lie.
func TestEndsOfPos(t *testing.T) {
	for _, x := range []struct{ pos, on, back int }{
		{least, least + 1, least}, {least + 1, least + 2, least},
		{-1, 0, -2}, {0, 1, -1}, {1, 2, 0},
		{most - 1, most, most - 2}, {most, most, most - 1},
	} {
		for from := range 4 {
			for _, jumped := range []bool{false, true} {
				p := api.Pair{Lie: from, Pos: x.pos, Jump: jumped}
				for _, y := range []struct {
					to   int
					want api.Pair
				}{
					{round[from], api.Pair{Lie: round[from], Pos: x.on, Jump: jumped}},
					{reverse[from], api.Pair{Lie: reverse[from], Pos: x.back, Jump: jumped}},
					{from, p},
					{3 - from, api.Pair{Lie: 3 - from, Pos: x.pos, Jump: true}},
				} {
					if got := pair.Step(p, y.to); got != y.want {
						t.Errorf("Step(%+v, %d): %+v, not %+v", p, y.to, got, y.want)
					}
				}
			}
		}
	}
}

// P10.1: a pair stays at an end of Pos, whoever goes on there, and leaves it with the first quarter that goes the other way.
func TestPosStaysAtAnEnd(t *testing.T) {
	p := api.Pair{Pos: most - 2}
	for i := range 12 {
		p = pair.Step(p, round[p.Lie])
		if p.Pos != most-1 && i == 0 || p.Pos != most && i > 0 || p.Jump {
			t.Errorf("on, %d: %+v", i, p)
		}
	}
	if got := walked(p, 2, 3); got != (api.Pair{Lie: 3, Pos: most - 2}) {
		t.Errorf("on, and back: %+v", got)
	}
	p = api.Pair{Pos: least + 2}
	for i := range 12 {
		p = pair.Step(p, reverse[p.Lie])
		if p.Pos != least+1 && i == 0 || p.Pos != least && i > 0 || p.Jump {
			t.Errorf("back, %d: %+v", i, p)
		}
	}
	if got := walked(p, 1, 3); got != (api.Pair{Lie: 3, Pos: least + 2}) {
		t.Errorf("back, and on: %+v", got)
	}
}

// P10.1: what jumped has jumped, however it goes on; it counts on from where it was.
func TestJumpStays(t *testing.T) {
	p := walked(api.Pair{}, 1, 2)
	if p != (api.Pair{Lie: 2, Pos: 1, Jump: true}) {
		t.Fatalf("%+v", p)
	}
	if got := walked(p, 0, 1, 3, 2, 0); got != (api.Pair{Pos: 6, Jump: true}) {
		t.Errorf("on: %+v", got)
	}
	if got := walked(p, 3, 1, 0, 2, 3, 1, 0); got != (api.Pair{Pos: -6, Jump: true}) {
		t.Errorf("back: %+v", got)
	}
	if got := walked(p, 1, 2, 1, 2, 2, 1); got != (api.Pair{Lie: 1, Pos: 1, Jump: true}) {
		t.Errorf("jumping: %+v", got)
	}
}

// P10.1: pairs and ways to lie by dice, one step each, and long runs of them.
func TestStepsByDice(t *testing.T) {
	d := dice(1)
	for range 200000 {
		holds(t, api.Pair{Lie: d.number(), Pos: d.pos(), Jump: d.below(2) == 0}, d.number())
	}
	for range 200 {
		p := api.Pair{Lie: d.number(), Pos: d.pos()}
		want := p
		for range 300 {
			lie := d.number()&^3 | []int{round[lows(p.Lie)], reverse[lows(p.Lie)], lows(p.Lie), d.below(4)}[d.below(4)]
			p, want = pair.Step(p, lie), model(want, lie)
			if p != want {
				t.Fatalf("%+v, not %+v", p, want)
			}
		}
	}
}

// P10.2: whole axles of each Pos around 0 and at the ends of numbers, told one by one.
func TestAxles(t *testing.T) {
	const quarter = 1 << 61
	for _, x := range [][2]int{
		{-9, -3}, {-8, -2}, {-7, -2}, {-6, -2}, {-5, -2}, {-4, -1}, {-3, -1}, {-2, -1}, {-1, -1},
		{0, 0}, {1, 0}, {2, 0}, {3, 0}, {4, 1}, {5, 1}, {6, 1}, {7, 1}, {8, 2}, {9, 2},
		{least, -quarter}, {least + 1, -quarter}, {least + 2, -quarter}, {least + 3, -quarter}, {least + 4, -quarter + 1},
		{most, quarter - 1}, {most - 1, quarter - 1}, {most - 2, quarter - 1}, {most - 3, quarter - 1}, {most - 4, quarter - 2},
	} {
		if got := pair.Axles(api.Pair{Pos: x[0]}); got != x[1] {
			t.Errorf("Axles of %d: %d, not %d", x[0], got, x[1])
		}
	}
}

// floor is pos divided by 4 as numbers of any width, rounded down: of a divisor above 0 big.Int's Div does so.
func floor(pos int) int {
	return int(new(big.Int).Div(big.NewInt(int64(pos)), big.NewInt(4)).Int64())
}

// P10.2: whole axles of many a Pos; neither Lie nor Jump counts.
func TestAxlesOfPosAlone(t *testing.T) {
	d := dice(2)
	all := []int{least, least + 5, -1 << 32, 1 << 32, most - 5, most}
	for range 50000 {
		all = append(all, d.pos())
	}
	for _, pos := range all {
		want := floor(pos)
		for _, p := range []api.Pair{{Pos: pos}, {Lie: 3, Pos: pos}, {Pos: pos, Jump: true}, {Lie: d.number(), Pos: pos, Jump: d.below(2) == 0}} {
			in := p
			if got := pair.Axles(in); got != want {
				t.Errorf("Axles(%+v): %d, not %d", p, got, want)
			}
			if in != p {
				t.Errorf("Axles(%+v): the pair handed in is %+v", p, in)
			}
		}
	}
}

// P10.2: a pair rests that lies 0 and never jumped; it tells by the two lowest bits, and not by Pos.
func TestRest(t *testing.T) {
	for _, x := range []struct {
		lie  int
		rest bool
	}{
		{0, true}, {1, false}, {2, false}, {3, false},
		{4, true}, {5, false}, {6, false}, {7, false}, {8, true}, {256, true}, {257, false}, {1 << 32, true}, {1<<32 + 2, false},
		{-1, false}, {-2, false}, {-3, false}, {-4, true}, {-8, true}, {least, true}, {least + 1, false}, {least + 2, false}, {least + 3, false}, {least + 4, true},
		{most, false}, {most - 1, false}, {most - 2, false}, {most - 3, true},
	} {
		for _, pos := range []int{0, 1, 2, 3, 4, -1, -2, -3, -4, 1000, least, least + 1, most, most - 3} {
			for _, jumped := range []bool{false, true} {
				p := api.Pair{Lie: x.lie, Pos: pos, Jump: jumped}
				in := p
				if got := pair.Rest(in); got != (x.rest && !jumped) {
					t.Errorf("Rest(%+v): %t", p, got)
				}
				if in != p {
					t.Errorf("Rest(%+v): the pair handed in is %+v", p, in)
				}
			}
		}
	}
}

// P10.2: each bit above the two lowest by itself, laid over each way to lie.
func TestOtherBitsOfRest(t *testing.T) {
	for _, above := range highs() {
		for lie := range 4 {
			if got := pair.Rest(api.Pair{Lie: above | lie, Pos: 7}); got != (lie == 0) {
				t.Errorf("Rest of a Lie of %d: %t", above|lie, got)
			}
			if pair.Rest(api.Pair{Lie: above | lie, Pos: 7, Jump: true}) {
				t.Errorf("Rest of a Lie of %d that jumped", above|lie)
			}
		}
	}
}

// P10.3: each axle that goes on is four quarters and one axle more, each one that goes back four quarters and one axle less.
func TestAxlesThatGoOver(t *testing.T) {
	for from := range 4 {
		start := api.Pair{Lie: from, Pos: 2}
		forth, home := start, start
		for i := 1; i <= 200; i++ {
			for range 4 {
				forth, home = pair.Step(forth, round[forth.Lie]), pair.Step(home, reverse[home.Lie])
			}
			if forth != (api.Pair{Lie: from, Pos: 2 + 4*i}) || pair.Axles(forth) != i {
				t.Errorf("from %d, %d axles on: %+v", from, i, forth)
			}
			if home != (api.Pair{Lie: from, Pos: 2 - 4*i}) || pair.Axles(home) != -i {
				t.Errorf("from %d, %d axles back: %+v", from, i, home)
			}
			if pair.Rest(forth) != (from == 0) || pair.Rest(home) != (from == 0) {
				t.Errorf("from %d, %d axles: %+v, %+v", from, i, forth, home)
			}
		}
	}
}

// thereAndBack goes far quarters one way, and the same way back again.
func thereAndBack(p api.Pair, far int, there, back [4]int) api.Pair {
	for range far {
		p = pair.Step(p, there[p.Lie])
	}
	for range far {
		p = pair.Step(p, back[p.Lie])
	}
	return p
}

// P10.3: who goes on and back again the same way is where it was, however far, from each way to lie.
func TestOnAndBackAgain(t *testing.T) {
	for from := range 4 {
		for _, pos := range []int{0, 1, -1, 2, -7, 1000, least + 300, most - 300} {
			for _, jumped := range []bool{false, true} {
				p := api.Pair{Lie: from, Pos: pos, Jump: jumped}
				for far := range 300 {
					if got := thereAndBack(p, far, round, reverse); got != p {
						t.Errorf("%+v, %d on and back: %+v", p, far, got)
					}
					if got := thereAndBack(p, far, reverse, round); got != p {
						t.Errorf("%+v, %d back and on: %+v", p, far, got)
					}
				}
			}
		}
	}
}

// P10.3: so also who goes to and fro by dice, with steps that stay among them, and then all of it backwards.
func TestToAndFroByDice(t *testing.T) {
	d := dice(3)
	for range 2000 {
		start := api.Pair{Lie: d.below(4), Pos: d.number() >> 1}
		p, lies := start, []int{start.Lie}
		for range d.below(200) {
			p = pair.Step(p, []int{round[p.Lie], round[p.Lie], reverse[p.Lie], p.Lie}[d.below(4)])
			lies = append(lies, p.Lie)
		}
		for i := range lies {
			p = pair.Step(p, lies[len(lies)-1-i])
		}
		if p != start {
			t.Fatalf("%+v: %+v over %v", start, p, lies)
		}
	}
}

// W2: an answer hangs on nothing that was asked ahead of it.
func TestAnswersHangOnNothingElse(t *testing.T) {
	d := dice(4)
	for range 2000 {
		p := api.Pair{Lie: d.number(), Pos: d.pos(), Jump: d.below(2) == 0}
		pair.Step(p, d.number())
		pair.Axles(p)
		pair.Rest(p)
		if got := walked(api.Pair{}, 1, 3, 2, 0); got != (api.Pair{Pos: 4}) || pair.Axles(got) != 1 || !pair.Rest(got) {
			t.Fatalf("%+v", got)
		}
	}
}
