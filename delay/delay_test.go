package delay_test

import (
	"errors"
	"fmt"
	"math/big"
	"reflect"
	"slices"
	"testing"

	"crossbuck/api"
	"crossbuck/config"
	"crossbuck/delay"
	"crossbuck/fault"
)

// isError tells whether err is an error of layer 1 of the number e; of OK: whether it is none.
func isError(err error, e api.Errno) bool {
	if e == api.OK {
		return err == nil
	}
	return err != nil && fault.Code(err) == e && len(fault.Path(err)) > 0 && errors.Is(err, e)
}

// dice are numbers that look like no rule, the same at each run.
type dice uint64

func (d *dice) bits() uint64 {
	*d = *d*6364136223846793005 + 1442695040888963407
	return uint64(*d)
}

func (d *dice) below(n int) int {
	return int(d.bits()>>33) % n
}

// number is one of any width and sign; every other one is of the greatest.
func (d *dice) number() int {
	high, low := d.bits(), d.bits()
	return int(high<<32^low>>16) >> (d.below(2) * d.below(64))
}

// edges are numbers around each power of two, of both signs, around the roots of the greatest numbers, and some ordinary ones.
func edges() []int {
	all := []int{
		3, 5, 7, 10, 100, 6000, 1000000, 123456789, 6700417, 274177, 4294967297, 2147483647, 2147483648,
		3037000498, 3037000499, 3037000500, 3037000501, 2097151, 2097152, 3074457345618258602, 3074457345618258603,
		api.MaxInt / 3, api.MaxInt/3 + 1, api.MaxInt / 7, api.MaxInt/7 + 1, api.MaxInt / 2, api.MaxInt/2 + 1, api.MaxInt / 10, api.MaxInt/10 + 1,
	}
	for i := range 63 {
		all = append(all, 1<<i-1, 1<<i, 1<<i+1)
	}
	all = append(all, api.MaxInt-2, api.MaxInt-1, api.MaxInt)
	for _, x := range all {
		all = append(all, -x)
	}
	all = append(all, api.MinInt, api.MinInt+1, api.MinInt+2)
	slices.Sort(all)
	return slices.Compact(all)
}

// reckoned holds what a call of two numbers answers against what it is as a number of any width.
func reckoned(t *testing.T, name string, a, b, got int, err error, want *big.Int) {
	t.Helper()
	if !want.IsInt64() {
		if got != 0 || !isError(err, api.ErrRange) {
			t.Errorf("%s(%d, %d): %d, %v, not ErrRange", name, a, b, got, err)
		}
		return
	}
	if int64(got) != want.Int64() || err != nil {
		t.Errorf("%s(%d, %d): %d, %v, not %v", name, a, b, got, err, want)
	}
}

func holdSum(t *testing.T, a, b int) {
	t.Helper()
	got, err := delay.Add(a, b)
	reckoned(t, "Add", a, b, got, err, new(big.Int).Add(big.NewInt(int64(a)), big.NewInt(int64(b))))
}

func holdProduct(t *testing.T, a, b int) {
	t.Helper()
	got, err := delay.Mul(a, b)
	reckoned(t, "Mul", a, b, got, err, new(big.Int).Mul(big.NewInt(int64(a)), big.NewInt(int64(b))))
}

// P9.1: ordinary sums and products, told one by one.
func TestOrdinarySumsAndProducts(t *testing.T) {
	for _, x := range [][4]int{
		{0, 0, 0, 0}, {1, 2, 3, 2}, {-1, 2, 1, -2}, {2, -3, -1, -6}, {-4, -5, -9, 20},
		{6000, 5000, 11000, 30000000}, {1000000, 1000000, 2000000, 1000000000000}, {1 << 31, 1 << 31, 1 << 32, 1 << 62}, {0, -7, -7, 0}, {-7, 0, -7, 0},
	} {
		if got, err := delay.Add(x[0], x[1]); got != x[2] || err != nil {
			t.Errorf("Add(%d, %d): %d, %v", x[0], x[1], got, err)
		}
		if got, err := delay.Mul(x[0], x[1]); got != x[3] || err != nil {
			t.Errorf("Mul(%d, %d): %d, %v", x[0], x[1], got, err)
		}
	}
}

// P9.1: the ends of numbers, and one beyond them, in both orders.
func TestSumsAtTheEnds(t *testing.T) {
	const least, most = api.MinInt, api.MaxInt
	fine := [][3]int{
		{most, 0, most}, {most - 1, 1, most}, {most, -1, most - 1}, {most, least, -1}, {most, -most, 0}, {1 << 62, 1<<62 - 1, most}, {most, least + 1, 0},
		{least, 0, least}, {least + 1, -1, least}, {least, 1, least + 1}, {-1 << 62, -1 << 62, least}, {-most, -1, least}, {most - 2, 2, most}, {least + 2, -2, least},
	}
	beyond := [][2]int{
		{most, 1}, {most - 1, 2}, {1 << 62, 1 << 62}, {most, most}, {most, 2}, {most, 1 << 32}, {most, most - 1},
		{least, -1}, {least + 1, -2}, {-1 << 62, -1<<62 - 1}, {least, least}, {least, -2}, {least, least + 1}, {least, -1 << 32}, {-most, -2},
	}
	for _, x := range fine {
		for _, y := range [][2]int{{x[0], x[1]}, {x[1], x[0]}} {
			if got, err := delay.Add(y[0], y[1]); got != x[2] || err != nil {
				t.Errorf("Add(%d, %d): %d, %v", y[0], y[1], got, err)
			}
		}
	}
	for _, x := range beyond {
		for _, y := range [][2]int{{x[0], x[1]}, {x[1], x[0]}} {
			if got, err := delay.Add(y[0], y[1]); got != 0 || !isError(err, api.ErrRange) {
				t.Errorf("Add(%d, %d): %d, %v", y[0], y[1], got, err)
			}
		}
	}
}

// P9.1: the ends of numbers, and one beyond them; MinInt and -1; products whose lower bits alone look small; in both orders.
func TestProductsAtTheEnds(t *testing.T) {
	const least, most = api.MinInt, api.MaxInt
	fine := [][3]int{
		{most, 0, 0}, {most, 1, most}, {most, -1, -most}, {7, most / 7, most}, {-7, -(most / 7), most}, {73, 126347562148695559, most}, {337, most / 337, most},
		{least, 0, 0}, {least, 1, least}, {-1 << 31, 1 << 32, least}, {1 << 62, -2, least}, {-1 << 62, 2, least}, {-8, 1 << 60, least},
		{4294967296, 2147483647, most - 1<<32 + 1}, {3, most / 3, most - 1}, {-3, most / 3, -most + 1}, {-1, -most, most}, {49, most / 49, most},
	}
	beyond := [][2]int{
		{least, -1}, {least, 2}, {least, -2}, {least, least}, {least, most}, {most, most}, {most, 2}, {most, -2}, {-most, 2}, {least, 3},
		// One above MaxInt, one below MinInt.
		{1 << 62, 2}, {-1 << 62, -2}, {1 << 31, 1 << 32}, {-1 << 31, -1 << 32}, {-27, 341606371735362067}, {27, -341606371735362067}, {-19, 485440633518672411}, {19, -485440633518672411},
		// 0 and other small numbers, if only the lower bits are looked at.
		{1 << 32, 1 << 32}, {-1 << 32, 1 << 32}, {-1 << 32, -1 << 32}, {1 << 62, 4}, {-1 << 62, 4}, {1<<32 + 1, 1<<32 - 1}, {1<<32 + 1, 1<<32 + 1}, {6700417, 274177 * 671088640 * 8},
		{274177, 67280421310721}, {-274177, -67280421310721}, {-274177, 67280421310721}, {1<<63 - 1, 1<<63 - 1}, {3, 6148914691236517205}, {3, 6148914691236517206}, {-3, 6148914691236517205}, {5, 3689348814741910323}, {5, 3689348814741910324},
	}
	for _, x := range fine {
		for _, y := range [][2]int{{x[0], x[1]}, {x[1], x[0]}} {
			if got, err := delay.Mul(y[0], y[1]); got != x[2] || err != nil {
				t.Errorf("Mul(%d, %d): %d, %v, not %d", y[0], y[1], got, err, x[2])
			}
		}
	}
	for _, x := range beyond {
		for _, y := range [][2]int{{x[0], x[1]}, {x[1], x[0]}} {
			if got, err := delay.Mul(y[0], y[1]); got != 0 || !isError(err, api.ErrRange) {
				t.Errorf("Mul(%d, %d): %d, %v, not ErrRange", y[0], y[1], got, err)
			}
		}
	}
}

// P9.1: all pairs of many numbers, held against numbers of any width.
func TestPairsOfEdges(t *testing.T) {
	all := edges()
	for _, a := range all {
		for _, b := range all {
			holdSum(t, a, b)
			holdProduct(t, a, b)
		}
	}
}

// P9.1: just what still goes, and one further, behind each of many numbers.
func TestLastSumsAndProducts(t *testing.T) {
	for _, a := range edges() {
		for _, end := range []int{api.MinInt, api.MaxInt} {
			for k := -3; k <= 3; k++ {
				holdSum(t, a, end-a+k)
				holdSum(t, end-a+k, a)
				if a != 0 {
					holdProduct(t, a, end/a+k)
					holdProduct(t, end/a+k, a)
				}
			}
		}
	}
}

// P9.1: what dice throw: both answers have to come often.
func TestSumsAndProductsByDice(t *testing.T) {
	d := dice(1)
	beyond := [2]int{}
	for range 200000 {
		a, b := d.number(), d.number()
		holdSum(t, a, b)
		holdProduct(t, a, b)
		if _, err := delay.Add(a, b); err != nil {
			beyond[0]++
		}
		if _, err := delay.Mul(a, b); err != nil {
			beyond[1]++
		}
	}
	for _, n := range beyond {
		if n < 1000 || n > 199000 {
			t.Error("dice that throw too few of a kind: ", beyond)
		}
	}
}

// P9.2: a far that the speed divides, and such that it does not.
func TestOrdinaryWays(t *testing.T) {
	for _, x := range [][3]int{
		{0, 1, 0}, {1, 1, 1}, {0, api.MaxInt, 0}, {1, api.MaxInt, 0}, {1000, 10, 100}, {1000, 20, 50}, {1000, 40, 25}, {1000, 30, 33}, {999, 1000, 0}, {1000, 1000, 1}, {1001, 1000, 1}, {1999, 1000, 1}, {2000, 1000, 2},
		{1000000, 5000, 200}, {1000000, 4999, 200}, {1000000, 5001, 199}, {1000000, 1, 1000000}, {7, 2, 3}, {8, 2, 4}, {9, 2, 4},
		{api.MaxInt, 1, api.MaxInt}, {api.MaxInt, 2, 1<<62 - 1}, {api.MaxInt, 7, 1317624576693539401}, {api.MaxInt - 1, 7, 1317624576693539400}, {api.MaxInt, api.MaxInt, 1}, {api.MaxInt - 1, api.MaxInt, 0}, {api.MaxInt, api.MaxInt - 1, 1}, {1 << 53, 1, 1 << 53}, {1<<53 + 1, 1, 1<<53 + 1}, {1<<62 - 1, 1 << 61, 1},
	} {
		if got, err := delay.Way(x[0], x[1]); got != x[2] || err != nil {
			t.Errorf("Way(%d, %d): %d, %v, not %d", x[0], x[1], got, err, x[2])
		}
	}
}

// modelWay is how often speed can be taken from far, in numbers of any width.
func modelWay(far, speed int) (int, api.Errno) {
	if far <= -1 || speed <= 0 {
		return 0, api.ErrArg
	}
	return int(new(big.Int).Div(big.NewInt(int64(far)), big.NewInt(int64(speed))).Int64()), api.OK
}

func holdWay(t *testing.T, far, speed int) {
	t.Helper()
	want, e := modelWay(far, speed)
	if got, err := delay.Way(far, speed); got != want || !isError(err, e) {
		t.Errorf("Way(%d, %d): %d, %v, not %d, %v", far, speed, got, err, want, e)
	}
}

// P9.2: each far and speed of many, those that may not be too.
func TestPairsOfWays(t *testing.T) {
	for _, far := range append(edges(), 1000000, 1000001, -1000000) {
		for _, speed := range append(edges(), 4999, 5000, 5001, -5000) {
			holdWay(t, far, speed)
		}
	}
	d := dice(2)
	for range 100000 {
		holdWay(t, d.number(), d.number())
		holdWay(t, d.below(1000001), 1+d.below(5000))
	}
}

// P9.2: what may not be, alone and both at once.
func TestWaysThatMayNotBe(t *testing.T) {
	for _, x := range [][2]int{
		{-1, 1}, {-1, api.MaxInt}, {api.MinInt, 1}, {-1000, 10}, {0, 0}, {1, 0}, {1000, 0}, {api.MaxInt, 0}, {0, -1}, {1, -1}, {1000, -10}, {api.MaxInt, api.MinInt}, {0, api.MinInt},
		{-1, 0}, {-1, -1}, {-1000, -10}, {api.MinInt, -1}, {api.MinInt, 0}, {api.MinInt, api.MinInt}, {api.MinInt, api.MaxInt},
	} {
		if got, err := delay.Way(x[0], x[1]); got != 0 || !isError(err, api.ErrArg) {
			t.Errorf("Way(%d, %d): %d, %v, not ErrArg", x[0], x[1], got, err)
		}
	}
}

// The document's example: Of Strike 1000, Speeds 10 20 40, warn 30: 70 20 0. (P9.3)
func TestExample(t *testing.T) {
	l := api.Line{Strike: 1000, Speeds: [3]int{10, 20, 40}}
	if got := delay.Of(l, 30); got != [3]int{70, 20, 0} {
		t.Error(got)
	}
}

// P9.3: each of the three stands in its own place, in whichever order the speeds come.
func TestOfPlaces(t *testing.T) {
	waits := map[int]int{10: 70, 20: 20, 25: 10, 33: 0, 34: 0, 1: 970, 0: 0, -1: 0, 1000: 0}
	for a, wa := range waits {
		for b, wb := range waits {
			for c, wc := range waits {
				l := api.Line{Strike: 1000, Signal: 5, Speeds: [3]int{a, b, c}}
				if got := delay.Of(l, 30); got != [3]int{wa, wb, wc} {
					t.Errorf("Speeds %v: %v", l.Speeds, got)
				}
			}
		}
	}
}

// P9.3: warn just as much as Way tells, one less, one more; below 0 it counts as 0.
func TestOfAroundWarn(t *testing.T) {
	for _, x := range [][2]int{
		{50, 0}, {49, 1}, {51, 0}, {48, 2}, {52, 0}, {1, 49}, {0, 50}, {-1, 50}, {-2, 50}, {-50, 50}, {api.MinInt, 50}, {api.MinInt + 1, 50}, {api.MinInt + 50, 50}, {api.MinInt + 51, 50}, {api.MaxInt, 0}, {api.MaxInt - 1, 0}, {1 << 32, 0}, {1<<32 + 1, 0}, {-1 << 32, 50},
	} {
		for class := range 3 {
			l := api.Line{Strike: 1010}
			l.Speeds[class] = 20
			want := [3]int{}
			want[class] = x[1]
			if got := delay.Of(l, x[0]); got != want {
				t.Errorf("warn %d, class %d: %v, not %v", x[0], class, got, want)
			}
		}
	}
}

// modelOf is what the document tells of l and warn, in numbers of any width.
func modelOf(l api.Line, warn int) [3]int {
	var all [3]int
	for i := range all {
		way, e := modelWay(l.Strike, l.Speeds[i])
		if e != api.OK {
			continue
		}
		left := big.NewInt(int64(way))
		if warn > 0 {
			left.Sub(left, big.NewInt(int64(warn)))
		}
		if left.Sign() > 0 {
			all[i] = int(left.Int64())
		}
	}
	return all
}

func holdOf(t *testing.T, l api.Line, warn int) {
	t.Helper()
	if got, want := delay.Of(l, warn), modelOf(l, warn); got != want {
		t.Errorf("Of %v, %d: %v, not %v", l, warn, got, want)
	}
}

// P9.3: lines that may be, and such that may not, with every warn; Of asks no Check of them.
func TestOfOddLines(t *testing.T) {
	strikes := []int{api.MinInt, -1000000, -1, 0, 1, 2, 4999, 5000, 5001, 999999, 1000000, 1000001, 1 << 32, 1<<32 + 1000, api.MaxInt - 1, api.MaxInt}
	speeds := []int{api.MinInt, -5000, -1, 0, 1, 2, 3, 4999, 5000, 5001, 1000000, 1 << 32, 1<<32 + 1, api.MaxInt}
	warns := []int{api.MinInt, api.MinInt + 1, -6000, -1, 0, 1, 2, 199, 200, 201, 6000, 6001, 999999, 1000000, 1 << 32, 1 << 62, api.MaxInt - 1, api.MaxInt}
	for _, strike := range strikes {
		for i, a := range speeds {
			for k, b := range speeds {
				for _, warn := range warns {
					holdOf(t, api.Line{Strike: strike, Speeds: [3]int{a, b, speeds[(i+k)%len(speeds)]}}, warn)
				}
			}
		}
	}
}

// P9.3: the signal is nothing to Of.
func TestOfSignal(t *testing.T) {
	for _, signal := range []int{api.MinInt, -1, 0, 1, 999, 1000, 1001, api.MaxInt} {
		l := api.Line{Strike: 1000, Signal: signal, Speeds: [3]int{10, 20, 40}}
		if got := delay.Of(l, 30); got != [3]int{70, 20, 0} {
			t.Errorf("Signal %d: %v", signal, got)
		}
	}
}

// P9.3: what dice throw.
func TestOfByDice(t *testing.T) {
	d := dice(3)
	for range 100000 {
		holdOf(t, api.Line{Strike: d.number(), Signal: d.number(), Speeds: [3]int{d.number(), d.number(), d.number()}}, d.number())
		holdOf(t, api.Line{Strike: d.below(1000001), Speeds: [3]int{d.below(5001), d.below(100), d.below(10)}}, d.below(6001))
	}
}

// ordinary is a crossing of n lines that may be, of numbers and delays that are all different.
func ordinary(n int) api.Config {
	c := api.Config{Times: api.Times{Amber: 257, Red: 514, Entry: 771, Travel: 1028, Prove: 1285, Open: 1542, Override: 1799, Fresh: 2056, Approach: 2313, Warn: 257}}
	for i := range n {
		c.Lines = append(c.Lines, api.Line{
			Strike: 700001 + 10007*i,
			Signal: 300002 + 1003*i,
			Speeds: [3]int{301 + 17*i, 502 + 19*i, 1003 + 23*i},
		})
	}
	return c
}

// smallest and greatest are crossings of n lines whose numbers are all at their limits.
func smallest(n int) api.Config {
	return api.Config{
		Lines: slices.Repeat([]api.Line{{Strike: 2, Signal: 1, Speeds: [3]int{1, 1, 1}}}, n),
		Times: api.Times{Amber: 1, Red: 1, Entry: 1, Travel: 1, Prove: 1, Open: 1, Override: 1, Fresh: 1, Approach: 1, Warn: 1},
	}
}

func greatest(n int) api.Config {
	return api.Config{
		Lines: slices.Repeat([]api.Line{{Strike: 1000000, Signal: 999999, Speeds: [3]int{5000, 5000, 5000}}}, n),
		Times: api.Times{Amber: 6000, Red: 6000, Entry: 6000, Travel: 6000, Prove: 6000, Open: 6000, Override: 6000, Fresh: 6000, Approach: 6000, Warn: 6000},
	}
}

func (d *dice) upTo(most int) int {
	switch d.below(8) {
	case 0:
		return 1
	case 1:
		return most
	}
	return 1 + d.below(most)
}

// thrown is a crossing that may be, by dice; now and then its numbers are at their limits.
func (d *dice) thrown() api.Config {
	var c api.Config
	for _, t := range times(&c) {
		*t = d.upTo(6000)
	}
	for range d.upTo(8) {
		l := api.Line{Strike: 1 + d.upTo(999999)}
		l.Signal = d.upTo(l.Strike - 1)
		l.Speeds = [3]int{d.upTo(5000), d.upTo(500), d.upTo(50)}
		c.Lines = append(c.Lines, l)
	}
	return c
}

// times are the addresses of c's times in the order of api, as api itself tells it.
func times(c *api.Config) []*int {
	var all []*int
	v := reflect.ValueOf(&c.Times).Elem()
	for i := range v.NumField() {
		all = append(all, v.Field(i).Addr().Interface().(*int))
	}
	return all
}

// modelTable and modelBound are what the document tells of a crossing that may be.
func modelTable(c api.Config) [][3]int {
	var all [][3]int
	for _, l := range c.Lines {
		all = append(all, modelOf(l, c.Times.Warn))
	}
	return all
}

func modelBound(c api.Config) int {
	return c.Times.Fresh + 8 + c.Times.Travel + c.Times.Fresh + c.Times.Approach
}

func holds(t *testing.T, name string, c api.Config) {
	t.Helper()
	if got, err := delay.Table(c); err != nil || !slices.Equal(got, modelTable(c)) {
		t.Errorf("%s: Table: %v, %v, not %v", name, got, err, modelTable(c))
	}
	if got, err := delay.Bound(c); err != nil || got != modelBound(c) {
		t.Errorf("%s: Bound: %v, %v, not %v", name, got, err, modelBound(c))
	}
}

func refuses(t *testing.T, name string, c api.Config) {
	t.Helper()
	if err := config.Check(c); !isError(err, api.ErrRange) {
		t.Fatalf("%s: Check: %v", name, err)
	}
	if got, err := delay.Table(c); !isError(err, api.ErrRange) || len(got) != 0 {
		t.Errorf("%s: Table: %v, %v", name, got, err)
	}
	if got, err := delay.Bound(c); !isError(err, api.ErrRange) || got != 0 {
		t.Errorf("%s: Bound: %v, %v", name, got, err)
	}
}

// P9.4: crossings of 1 to 8 lines, ordinary ones and those at the limits; each line in its place.
func TestTableAndBound(t *testing.T) {
	for n := 1; n <= 8; n++ {
		for k, c := range []api.Config{ordinary(n), smallest(n), greatest(n)} {
			holds(t, fmt.Sprintf("%d lines, %d", n, k), c)
		}
	}
}

// P9.4: crossings whose answers are told one by one.
func TestKnownTableAndBound(t *testing.T) {
	c := api.Config{
		Lines: []api.Line{
			{Strike: 1000, Signal: 500, Speeds: [3]int{10, 20, 40}},
			{Strike: 90000, Signal: 30000, Speeds: [3]int{400, 100, 200}},
			{Strike: 3000, Signal: 1, Speeds: [3]int{5000, 100, 99}},
		},
		Times: api.Times{Amber: 1, Red: 2, Entry: 3, Travel: 600, Prove: 5, Open: 7, Override: 11, Fresh: 20, Approach: 3000, Warn: 30},
	}
	table, err := delay.Table(c)
	if want := [][3]int{{70, 20, 0}, {195, 870, 420}, {0, 0, 0}}; err != nil || !slices.Equal(table, want) {
		t.Errorf("%v, %v", table, err)
	}
	if bound, err := delay.Bound(c); err != nil || bound != 3648 {
		t.Errorf("%v, %v", bound, err)
	}
	for _, x := range []struct {
		c    api.Config
		want int
	}{{smallest(1), 12}, {smallest(8), 12}, {greatest(1), 24008}, {greatest(8), 24008}} {
		if bound, err := delay.Bound(x.c); err != nil || bound != x.want {
			t.Errorf("%v, %v, not %v", bound, err, x.want)
		}
	}
}

// P9.4: each time by itself at 1 and at 6000, among others.
func TestEachTimeAlone(t *testing.T) {
	for i := range times(new(api.Config)) {
		for _, x := range []int{1, 2, 3, 100, 5999, 6000} {
			for k, c := range []api.Config{ordinary(3), smallest(1), greatest(8)} {
				*times(&c)[i] = x
				holds(t, fmt.Sprintf("time %d, %d of %d", i, x, k), c)
			}
		}
	}
}

// wrongs are numbers that may stand nowhere in a crossing.
func wrongs() []int {
	return []int{0, -1, -6000, -1000000, -1 << 32, api.MinInt, api.MinInt + 257, 1000001, 1 << 31, 1 << 32, 1<<32 + 257, 1<<32 + 400000, api.MaxInt}
}

// P9.4: each reason for which a crossing may not be, in each line.
func TestCrossingsThatMayNotBe(t *testing.T) {
	refuses(t, "zero", api.Config{})
	refuses(t, "no lines", ordinary(0))
	empty := ordinary(1)
	empty.Lines = empty.Lines[:0]
	refuses(t, "empty lines", empty)
	for _, n := range []int{9, 10, 16, 255, 256, 257, 264, 65537} {
		refuses(t, fmt.Sprint(n, " lines"), smallest(n))
	}
	for i := range times(new(api.Config)) {
		for _, x := range append(wrongs(), 6001, 65536, 65537) {
			c := ordinary(1 + i%8)
			*times(&c)[i] = x
			refuses(t, fmt.Sprintf("time %d: %d", i, x), c)
		}
	}
	for n := 1; n <= 8; n++ {
		for i := range n {
			refusesLine(t, n, i)
		}
	}
}

// refusesLine holds that all is refused if one number of the line i of n may not be.
func refusesLine(t *testing.T, n, i int) {
	t.Helper()
	spots := []func(l *api.Line) *int{
		func(l *api.Line) *int { return &l.Strike }, func(l *api.Line) *int { return &l.Signal },
		func(l *api.Line) *int { return &l.Speeds[0] }, func(l *api.Line) *int { return &l.Speeds[1] }, func(l *api.Line) *int { return &l.Speeds[2] },
	}
	for k, at := range spots {
		all := wrongs()
		switch k {
		case 0:
			all = append(all, ordinary(n).Lines[i].Signal, 1, 2)
		case 1:
			all = append(all, ordinary(n).Lines[i].Strike, 999999, 1000000)
		default:
			all = append(all, 5001, 65536, 65537)
		}
		for _, x := range all {
			c := ordinary(n)
			*at(&c.Lines[i]) = x
			refuses(t, fmt.Sprintf("line %d of %d, %d: %d", i, n, k, x), c)
		}
	}
}

// P9.4: crossings by dice, and such with a number turned.
func TestTableAndBoundByDice(t *testing.T) {
	d := dice(4)
	refused := 0
	for range 40000 {
		c := d.thrown()
		if d.below(2) == 0 {
			all := times(&c)
			for i := range c.Lines {
				l := &c.Lines[i]
				all = append(all, &l.Strike, &l.Signal, &l.Speeds[0], &l.Speeds[1], &l.Speeds[2])
			}
			*all[d.below(len(all))] = []int{d.below(1000002), d.below(7000), d.below(10), d.number()}[d.below(4)]
		}
		if config.Check(c) != nil {
			refuses(t, "dice", c)
			refused++
		} else {
			holds(t, "dice", c)
		}
	}
	if refused < 4000 || refused > 30000 {
		t.Error("dice that throw too few of a kind: ", refused)
	}
}

// warned holds of one class of a line: at each speed up to its own a train is, when the delay is over, at least as far as it goes in warn ticks, or there is no delay; and one tick more would be too much.
func warned(t *testing.T, strike, speed, warn, wait int) {
	t.Helper()
	if wait < 0 {
		t.Errorf("Strike %d, speed %d, warn %d: %d", strike, speed, warn, wait)
	}
	if wait == 0 {
		return
	}
	for v := 0; v <= speed; v++ {
		if strike-v*wait < v*warn {
			t.Fatalf("Strike %d, speed %d of %d, warn %d: %d", strike, v, speed, warn, wait)
		}
	}
	if strike-speed*(wait+1) >= speed*warn {
		t.Errorf("Strike %d, speed %d, warn %d: %d is less than might be", strike, speed, warn, wait)
	}
}

// P9.6: it follows for lines of all kinds, at each speed up to a class's.
func TestTrainsAreWarned(t *testing.T) {
	for _, strike := range []int{0, 1, 2, 99, 100, 101, 5000, 90000, 999999, 1000000} {
		for _, speed := range []int{1, 2, 3, 7, 10, 99, 100, 101, 400, 4999, 5000} {
			for _, warn := range []int{0, 1, 2, 30, 199, 200, 201, 6000} {
				l := api.Line{Strike: strike, Speeds: [3]int{speed, speed, speed}}
				for _, wait := range delay.Of(l, warn) {
					warned(t, strike, speed, warn, wait)
				}
			}
		}
	}
}

// P9.6: and for crossings by dice, of which some have to have delays.
func TestTrainsAreWarnedByDice(t *testing.T) {
	d := dice(6)
	waits := 0
	for range 2000 {
		c := d.thrown()
		table, err := delay.Table(c)
		if err != nil || len(table) != len(c.Lines) {
			t.Fatal(table, err)
		}
		for i, l := range c.Lines {
			for class, wait := range table[i] {
				warned(t, l.Strike, l.Speeds[class], c.Times.Warn, wait)
				if wait > 0 {
					waits++
				}
			}
		}
	}
	if waits < 1000 {
		t.Error("dice that throw too few delays: ", waits)
	}
}

// roomyLines is c with spare room behind its lines that is not empty, and all these lines.
func roomyLines(c api.Config) (part api.Config, whole []api.Line) {
	whole = append(slices.Clone(c.Lines), ordinary(5).Lines...)
	part = c
	part.Lines = whole[:len(c.Lines)]
	return part, whole
}

func spoilLines(lines []api.Line) {
	lines = lines[:cap(lines)]
	for i := range lines {
		lines[i].Strike ^= 0xa5
		lines[i].Signal ^= 0xa5
		for k := range lines[i].Speeds {
			lines[i].Speeds[k] ^= 0xa5
		}
	}
}

// P9.5, W6: lines that are handed in are not changed, nor their spare room, whether they may be or not.
func TestLinesAreNotChanged(t *testing.T) {
	for n := range 12 {
		for _, c := range []api.Config{ordinary(n), smallest(n), greatest(n)} {
			in, whole := roomyLines(c)
			before := slices.Clone(whole)
			delay.Table(in)
			delay.Bound(in)
			if !slices.Equal(whole, before) || in.Times != c.Times {
				t.Errorf("%d lines: changed", n)
			}
		}
	}
}

// P9.5, W6: a table is new memory, its spare room too: neither the crossing nor other tables change with it, nor it with those.
func TestTablesAreNewMemory(t *testing.T) {
	for n := 1; n <= 8; n++ {
		want := modelTable(ordinary(n))
		in, whole := roomyLines(ordinary(n))
		before := slices.Clone(whole)
		first, _ := delay.Table(in)
		second, _ := delay.Table(in)
		for i := range first[:cap(first)] {
			first[:cap(first)][i] = [3]int{-1, -2, -3}
		}
		if !slices.Equal(second, want) || !slices.Equal(whole, before) {
			t.Errorf("%d lines: a table shares memory", n)
		}
		third, _ := delay.Table(in)
		spoilLines(whole)
		if !slices.Equal(second, want) || !slices.Equal(third, want) {
			t.Errorf("%d lines: a table hangs on what was handed in", n)
		}
		if again, err := delay.Table(ordinary(n)); err != nil || !slices.Equal(again, want) {
			t.Errorf("%d lines: a table is kept", n)
		}
	}
}

// W2: an answer hangs on nothing that was asked ahead of it.
func TestAnswersHangOnNothingElse(t *testing.T) {
	d := dice(7)
	for range 2000 {
		delay.Table(d.thrown())
		delay.Bound(d.thrown())
		delay.Table(api.Config{})
		delay.Bound(api.Config{})
		delay.Mul(d.number(), d.number())
		delay.Way(d.number(), d.number())
		delay.Of(d.thrown().Lines[0], d.number())
		holds(t, "ordinary", ordinary(8))
		if got := delay.Of(api.Line{Strike: 1000, Speeds: [3]int{10, 20, 40}}, 30); got != [3]int{70, 20, 0} {
			t.Fatal(got)
		}
	}
}
