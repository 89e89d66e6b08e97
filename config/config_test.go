package config_test

import (
	"bytes"
	"encoding/binary"
	"errors"
	"fmt"
	"reflect"
	"slices"
	"testing"

	"crossbuck/api"
	"crossbuck/config"
	"crossbuck/crc"
	"crossbuck/fault"
)

// ordinary is a crossing of n lines that may be, of numbers that are all different, and take both bytes of two, three of four.
func ordinary(n int) api.Config {
	c := api.Config{Times: api.Times{Amber: 257, Red: 514, Entry: 771, Travel: 1028, Prove: 1285, Open: 1542, Override: 1799, Fresh: 2056, Approach: 2313, Warn: 2570}}
	for i := range n {
		c.Lines = append(c.Lines, api.Line{
			Strike: 700001 + 1001*i,
			Signal: 300002 + 1003*i,
			Speeds: [3]int{3001 + 17*i, 3502 + 17*i, 4003 + 17*i},
		})
	}
	return c
}

// smallest and greatest are crossings of n lines whose numbers are all at their limits.
func smallest(n int) api.Config {
	return api.Config{
		Lines: slices.Repeat([]api.Line{{Strike: 2, Signal: 1, Speeds: [3]int{1, 1, 1}}}, n),
		Times: api.Times{Amber: 1, Red: 1, Entry: 1, Travel: 1, Prove: 1, Open: 1, Override: 1, Fresh: 1, Approach: 1, Warn: 1},
	}
}

func greatest(n int) api.Config {
	return api.Config{
		Lines: slices.Repeat([]api.Line{{Strike: 1000000, Signal: 999999, Speeds: [3]int{5000, 5000, 5000}}}, n),
		Times: api.Times{Amber: 6000, Red: 6000, Entry: 6000, Travel: 6000, Prove: 6000, Open: 6000, Override: 6000, Fresh: 6000, Approach: 6000, Warn: 6000},
	}
}

// dice are numbers that look like no rule, the same at each run.
type dice uint64

func (d *dice) below(n int) int {
	*d = *d*6364136223846793005 + 1442695040888963407
	return int(uint64(*d)>>33) % n
}

// thrown is a crossing that may be, by dice; now and then its numbers are at their limits.
func (d *dice) thrown() api.Config {
	var c api.Config
	for _, t := range times(&c) {
		*t = d.upTo(6000)
	}
	for range d.upTo(8) {
		l := api.Line{Strike: 1 + d.upTo(999999)}
		l.Signal = d.upTo(l.Strike - 1)
		l.Speeds = [3]int{d.upTo(5000), d.upTo(5000), d.upTo(5000)}
		c.Lines = append(c.Lines, l)
	}
	return c
}

func (d *dice) upTo(most int) int {
	switch d.below(8) {
	case 0:
		return 1
	case 1:
		return most
	}
	return 1 + d.below(most)
}

// times are the addresses of c's times in the order of api, as api itself tells it.
func times(c *api.Config) []*int {
	var all []*int
	v := reflect.ValueOf(&c.Times).Elem()
	for i := range v.NumField() {
		all = append(all, v.Field(i).Addr().Interface().(*int))
	}
	return all
}

// spot is where a number of a crossing stands, and which numbers may, and may not, stand there while the others are those of ordinary.
type spot struct {
	name        string
	at          func(c *api.Config) *int
	fine, wrong []int
}

// nowhere are numbers that may stand at no spot; those that look fine as fewer bits, too.
func nowhere() []int {
	return []int{
		0, -1, -2, -255, -256, -5000, -6000, -65535, -65536, -65536 + 257, -1000000, -1 << 31, -1 << 32, -1<<32 + 257, -1<<32 + 400000, -1 << 62,
		api.MinInt, api.MinInt + 1, api.MinInt + 257, api.MinInt + 400000, api.MinInt + 700001,
		1000001, 1000002, 1 << 20, 1<<20 + 257, 1 << 24, 1 << 31, 1<<31 - 1, 1<<32 - 1, 1 << 32, 1<<32 + 1, 1<<32 + 257, 1<<32 + 400000, 1<<32 + 700001, 1 << 33, 1<<48 + 257, 1<<62 + 1,
		api.MaxInt - 400000, api.MaxInt - 1, api.MaxInt,
	}
}

// short are numbers that may, and may not, stand at a spot whose numbers are from 1 to most.
func short(most int) (fine, wrong []int) {
	fine = []int{1, 2, 3, 127, 128, 255, 256, 257, 4095, 4096, most - 1, most}
	wrong = append(nowhere(), most+1, most+2, most+256, 2*most, 8191, 8192, 32767, 32768, 65535, 65536, 65537, 65536+257, 65536+most, 1000000)
	return fine, wrong
}

func timeSpots() []spot {
	var all []spot
	fine, wrong := short(6000)
	names := reflect.TypeFor[api.Times]()
	for i := range names.NumField() {
		at := func(c *api.Config) *int { return times(c)[i] }
		all = append(all, spot{names.Field(i).Name, at, fine, wrong})
	}
	return all
}

// lineSpots are those of the line i.
func lineSpots(i int) []spot {
	l := ordinary(i + 1).Lines[i]
	all := []spot{
		{
			fmt.Sprint("Strike of line ", i),
			func(c *api.Config) *int { return &c.Lines[i].Strike },
			[]int{l.Signal + 1, l.Signal + 2, 400000, 500000, 999999, 1000000},
			append(nowhere(), l.Signal, l.Signal-1, l.Signal-256, 1, 2, 255, 256, 65535, 65536),
		},
		{
			fmt.Sprint("Signal of line ", i),
			func(c *api.Config) *int { return &c.Lines[i].Signal },
			[]int{1, 2, 255, 256, 257, 65535, 65536, 65537, 400000, l.Strike - 2, l.Strike - 1},
			append(nowhere(), l.Strike, l.Strike+1, l.Strike+256, 900000, 999999, 1000000),
		},
	}
	fine, wrong := short(5000)
	for k := range l.Speeds {
		at := func(c *api.Config) *int { return &c.Lines[i].Speeds[k] }
		all = append(all, spot{fmt.Sprintf("Speeds %d of line %d", k, i), at, fine, wrong})
	}
	return all
}

// spots are all of a crossing of n lines.
func spots(n int) []spot {
	all := timeSpots()
	for i := range n {
		all = append(all, lineSpots(i)...)
	}
	return all
}

// laid is c as the bytes of how many lines there are, of its times and of its lines, ahead of which the mark stands: laid by another way than the program's, whether c may be or not. Its numbers have to fit into their bytes.
func laid(c api.Config) []byte {
	b := append([]byte("XB1"), byte(len(c.Lines)))
	for _, t := range times(&c) {
		b = binary.BigEndian.AppendUint16(b, uint16(*t))
	}
	for _, l := range c.Lines {
		b = binary.BigEndian.AppendUint32(b, uint32(l.Strike))
		b = binary.BigEndian.AppendUint32(b, uint32(l.Signal))
		for _, s := range l.Speeds {
			b = binary.BigEndian.AppendUint16(b, uint16(s))
		}
	}
	return b
}

// isError tells whether err is an error of layer 1 of the number e; of OK: whether it is none.
func isError(err error, e api.Errno) bool {
	if e == api.OK {
		return err == nil
	}
	return err != nil && fault.Code(err) == e && len(fault.Path(err)) > 0 && errors.Is(err, e)
}

func isZero(c api.Config) bool {
	return len(c.Lines) == 0 && c.Times == api.Times{}
}

func same(a, b api.Config) bool {
	return slices.Equal(a.Lines, b.Lines) && a.Times == b.Times
}

// refusesAll holds that Check and Encode tell ErrRange of c.
func refusesAll(t *testing.T, name string, c api.Config) {
	t.Helper()
	if err := config.Check(c); !isError(err, api.ErrRange) {
		t.Errorf("%s: Check: %v", name, err)
	}
	if b, err := config.Encode(c); !isError(err, api.ErrRange) || len(b) != 0 {
		t.Errorf("%s: Encode: % x, %v", name, b, err)
	}
}

// takesAll holds that Check takes c, that Encode makes its bytes, and that Decode finds it in them.
func takesAll(t *testing.T, name string, c api.Config) {
	t.Helper()
	if err := config.Check(c); err != nil {
		t.Errorf("%s: Check: %v", name, err)
	}
	b, err := config.Encode(c)
	if err != nil || !bytes.Equal(b, crc.Seal(laid(c))) {
		t.Errorf("%s: Encode: % x, %v", name, b, err)
	}
	decodes(t, name, crc.Seal(laid(c)), c)
}

// decodes holds that c is what Decode finds in b.
func decodes(t *testing.T, name string, b []byte, c api.Config) {
	t.Helper()
	if got, err := config.Decode(b); err != nil || !same(got, c) {
		t.Errorf("%s: Decode of % x: %v, %v, not %v", name, b, got, err, c)
	}
}

// refuses holds that Decode tells e of b, and nothing else.
func refuses(t *testing.T, name string, b []byte, e api.Errno) {
	t.Helper()
	if got, err := config.Decode(b); !isError(err, e) || !isZero(got) {
		t.Errorf("%s: Decode of % x: %v, %v, not %v", name, b, got, err, e)
	}
}

// P8.1: crossings of 1 to 8 lines may be; numbers at their limits, too.
func TestCheckTakesOneToEightLines(t *testing.T) {
	for n := 1; n <= 8; n++ {
		for k, c := range []api.Config{ordinary(n), smallest(n), greatest(n)} {
			if err := config.Check(c); err != nil {
				t.Errorf("%d lines, %d: %v", n, k, err)
			}
		}
	}
}

// P8.1, P8.2, W5: no lines, be it nil or an empty list, or more than 8 may not be; nor such whose number looks fine as a byte.
func TestNoLinesAndTooMany(t *testing.T) {
	none := ordinary(0)
	none.Lines = nil
	refusesAll(t, "nil", none)
	none.Lines = []api.Line{}
	refusesAll(t, "empty", none)
	none.Lines = ordinary(8).Lines[:0]
	refusesAll(t, "empty with spare room", none)
	for _, n := range []int{9, 10, 16, 127, 128, 255, 256, 257, 264, 65536, 65537, 65544} {
		many := smallest(n)
		refusesAll(t, fmt.Sprint(n, " lines"), many)
	}
	refusesAll(t, "zero", api.Config{})
	refusesAll(t, "no times", api.Config{Lines: ordinary(1).Lines})
}

// P8.1: each number alone, of a crossing of each number of lines: the edges and what is beyond them.
func TestEachNumberAlone(t *testing.T) {
	for n := 1; n <= 8; n++ {
		for _, s := range spots(n) {
			for _, x := range s.fine {
				c := ordinary(n)
				*s.at(&c) = x
				takesAll(t, fmt.Sprintf("%d lines, %s %d", n, s.name, x), c)
			}
			for _, x := range s.wrong {
				c := ordinary(n)
				*s.at(&c) = x
				refusesAll(t, fmt.Sprintf("%d lines, %s %d", n, s.name, x), c)
			}
		}
	}
}

// P8.1: the number that may not be is found among others at their limits, too.
func TestOneWrongAmongLimits(t *testing.T) {
	for n := 1; n <= 8; n++ {
		for _, s := range spots(n) {
			for _, c := range []api.Config{smallest(n), greatest(n)} {
				if err := config.Check(c); err != nil {
					t.Fatal(err)
				}
				for _, x := range nowhere() {
					*s.at(&c) = x
					refusesAll(t, fmt.Sprintf("%d lines, %s %d", n, s.name, x), c)
				}
			}
		}
	}
}

// P8.1: two numbers that may not be don't make one that may.
func TestTwoWrong(t *testing.T) {
	all := spots(2)
	for i, s := range all {
		for _, other := range all[:i] {
			for _, x := range []int{api.MinInt, -1, 0, 1000001, 1 << 32, api.MaxInt} {
				for _, y := range []int{api.MinInt, -1, 0, 1000001, 1 << 32, api.MaxInt} {
					c := ordinary(2)
					*s.at(&c), *other.at(&c) = x, y
					refusesAll(t, fmt.Sprint(s.name, x, other.name, y), c)
				}
			}
		}
	}
}

// P8.1: Signal is from 1 on, Strike beyond it, and at most 1000000: all pairs of many numbers, of the first, a middle and the last line.
func TestSignalAndStrike(t *testing.T) {
	all := append(nowhere(), 1, 2, 3, 255, 256, 257, 65535, 65536, 65537, 499999, 500000, 999998, 999999, 1000000)
	for _, i := range []int{0, 3, 7} {
		for _, strike := range all {
			for _, signal := range all {
				c := ordinary(8)
				c.Lines[i].Strike, c.Lines[i].Signal = strike, signal
				name := fmt.Sprintf("line %d, Strike %d, Signal %d", i, strike, signal)
				if 1 <= signal && signal < strike && strike <= 1000000 {
					takesAll(t, name, c)
				} else {
					refusesAll(t, name, c)
				}
			}
		}
	}
}

// P8.1: numbers are held each by itself, but Signal against Strike: nothing is asked of one line, speed or time against another.
func TestNumbersAreHeldByThemselves(t *testing.T) {
	for n := 1; n <= 8; n++ {
		for _, s := range spots(n) {
			for _, x := range []int{s.fine[0], s.fine[len(s.fine)-1]} {
				for _, c := range []api.Config{smallest(n), greatest(n), ordinary(n)} {
					*s.at(&c) = x
					if err := config.Check(c); !isError(err, modelCheck(c)) {
						t.Errorf("%d lines, %s %d: %v", n, s.name, x, err)
					}
				}
			}
		}
	}
}

// modelCheck is what the document asks of c, in other words.
func modelCheck(c api.Config) api.Errno {
	fine := len(c.Lines) > 0 && len(c.Lines) < 9
	from1to := func(x, most int) { fine = fine && x > 0 && x < most+1 }
	for _, t := range times(&c) {
		from1to(*t, 6000)
	}
	for _, l := range c.Lines {
		from1to(l.Strike, 1000000)
		from1to(l.Signal, l.Strike-1)
		for _, s := range l.Speeds {
			from1to(s, 5000)
		}
	}
	if fine {
		return api.OK
	}
	return api.ErrRange
}

// P8.1: what dice throw, and turn.
func TestCheckByDice(t *testing.T) {
	d := dice(1)
	odd := nowhere()
	told := map[api.Errno]int{}
	for range 20000 {
		c := d.thrown()
		all := spots(len(c.Lines))
		for range d.below(3) {
			s := all[d.below(len(all))]
			*s.at(&c) = []int{d.below(1000002), d.below(7000), d.below(10), odd[d.below(len(odd))]}[d.below(4)]
		}
		want := modelCheck(c)
		told[want]++
		if want == api.OK {
			takesAll(t, "dice", c)
		} else {
			refusesAll(t, "dice", c)
		}
	}
	if told[api.OK] < 1000 || told[api.ErrRange] < 1000 {
		t.Error("dice that throw too few of a kind: ", told)
	}
}

// known is a crossing of two lines, and its bytes one by one.
func known() (api.Config, []byte) {
	c := api.Config{
		Lines: []api.Line{
			{Strike: 1000000, Signal: 66051, Speeds: [3]int{1, 258, 5000}},
			{Strike: 2, Signal: 1, Speeds: [3]int{1286, 255, 256}},
		},
		Times: api.Times{Amber: 1, Red: 2, Entry: 258, Travel: 772, Prove: 1286, Open: 6000, Override: 255, Fresh: 256, Approach: 2314, Warn: 11},
	}
	b := []byte{
		'X', 'B', '1', 2,
		0, 1, 0, 2, 1, 2, 3, 4, 5, 6, 0x17, 0x70, 0, 255, 1, 0, 9, 10, 0, 11,
		0, 0x0f, 0x42, 0x40, 0, 1, 2, 3, 0, 1, 1, 2, 0x13, 0x88,
		0, 0, 0, 2, 0, 0, 0, 1, 5, 6, 0, 255, 1, 0,
		0x75, 0x50,
	}
	return c, b
}

// P8.2, P8.3: the bytes of a crossing one by one, and its sum.
func TestKnownBytes(t *testing.T) {
	c, want := known()
	b, err := config.Encode(c)
	if err != nil || !bytes.Equal(b, want) {
		t.Errorf("% x, %v, not % x", b, err, want)
	}
	decodes(t, "known", want, c)
}

// P8.2: where each number stands: that number alone is another one, and its bytes alone change, and the sum.
func TestWhereNumbersStand(t *testing.T) {
	const n = 8
	places := numberPlaces(n)
	for i, s := range spots(n) {
		before, err := config.Encode(ordinary(n))
		if err != nil || len(before) != 4+20+14*n+2 {
			t.Fatalf("% x, %v", before, err)
		}
		c := ordinary(n)
		*s.at(&c)++
		after, err := config.Encode(c)
		if err != nil || len(after) != len(before) {
			t.Fatalf("%s: % x, %v", s.name, after, err)
		}
		at, width := places[i][0], places[i][1]
		number := append(make([]byte, 8-width), after[at:at+width]...)
		if binary.BigEndian.Uint64(number) != uint64(*s.at(&c)) {
			t.Errorf("%s: % x at place %d", s.name, after, at)
		}
		if sum := crc.Sum(after[:len(after)-2]); binary.BigEndian.Uint16(after[len(after)-2:]) != sum {
			t.Errorf("%s: % x: not the sum %x", s.name, after, sum)
		}
		copy(after[at:at+width], before[at:])
		if !bytes.Equal(after[:len(after)-2], before[:len(before)-2]) {
			t.Errorf("%s: % x: other bytes changed too", s.name, after)
		}
	}
}

// numberPlaces are the place and the width of each number of a crossing of n lines, in the order of spots.
func numberPlaces(n int) [][2]int {
	var all [][2]int
	for i := range 10 {
		all = append(all, [2]int{4 + 2*i, 2})
	}
	for i := range n {
		at := 24 + 14*i
		all = append(all, [2]int{at, 4}, [2]int{at + 4, 4}, [2]int{at + 8, 2}, [2]int{at + 10, 2}, [2]int{at + 12, 2})
	}
	return all
}

// P8.2: what there is ahead of the numbers: X, B, the digit's byte, and how many lines there are.
func TestHead(t *testing.T) {
	for n := 1; n <= 8; n++ {
		b, err := config.Encode(ordinary(n))
		if err != nil || len(b) < 4 || !bytes.Equal(b[:4], []byte{0x58, 0x42, 0x31, byte(n)}) {
			t.Errorf("%d lines: % x, %v", n, b, err)
		}
	}
}

// P8.2, P8.3, P8.5: crossings of each number of lines.
func TestOrdinaryThereAndBack(t *testing.T) {
	for n := 1; n <= 8; n++ {
		takesAll(t, fmt.Sprint("ordinary ", n), ordinary(n))
		takesAll(t, fmt.Sprint("smallest ", n), smallest(n))
		takesAll(t, fmt.Sprint("greatest ", n), greatest(n))
	}
}

// P8.3: the bytes of a crossing that may not be: lines that are none, or too many, and numbers that are too small, or too great, as far as bytes can tell them.
func TestDecodeTellsErrRange(t *testing.T) {
	refuses(t, "no lines", crc.Seal(laid(ordinary(0))), api.ErrRange)
	for n := 9; n <= 255; n++ {
		refuses(t, fmt.Sprint(n, " lines"), crc.Seal(laid(smallest(n))), api.ErrRange)
	}
	for n := 1; n <= 8; n++ {
		for i, s := range spots(n) {
			width := numberPlaces(n)[i][1]
			for _, x := range s.wrong {
				if x < 0 || x >= 1<<(8*width) {
					continue
				}
				c := ordinary(n)
				*s.at(&c) = x
				refuses(t, fmt.Sprintf("%d lines, %s %d", n, s.name, x), crc.Seal(laid(c)), api.ErrRange)
			}
		}
	}
}

// P8.3: each number of the first line and of the times as each that two bytes can tell; of four bytes each of their bytes by itself.
func TestDecodeEachNumber(t *testing.T) {
	for i, place := range numberPlaces(1) {
		b := laid(ordinary(1))
		if place[1] == 2 {
			for x := range 1 << 16 {
				binary.BigEndian.PutUint16(b[place[0]:], uint16(x))
				asModelled(t, fmt.Sprint(i, " ", x), crc.Seal(b))
			}
			continue
		}
		for k := range 4 {
			b := laid(ordinary(1))
			for x := range 256 {
				b[place[0]+k] = byte(x)
				asModelled(t, fmt.Sprint(i, " ", k, " ", x), crc.Seal(b))
			}
		}
	}
}

// modelled is what the document tells of b: what comes first of what it is refused for, or the crossing.
func modelled(b []byte) (api.Config, api.Errno) {
	opened, ok := crc.Open(b)
	if !ok {
		return api.Config{}, api.ErrSum
	}
	if len(opened) < 4 || string(opened[:3]) != "XB1" || len(opened) != 24+14*int(opened[3]) {
		return api.Config{}, api.ErrForm
	}
	c := api.Config{Lines: make([]api.Line, opened[3])}
	for i, t := range times(&c) {
		*t = int(binary.BigEndian.Uint16(opened[4+2*i:]))
	}
	for i := range c.Lines {
		b := opened[24+14*i:]
		c.Lines[i].Strike = int(binary.BigEndian.Uint32(b))
		c.Lines[i].Signal = int(binary.BigEndian.Uint32(b[4:]))
		for k := range 3 {
			c.Lines[i].Speeds[k] = int(binary.BigEndian.Uint16(b[8+2*k:]))
		}
	}
	if modelCheck(c) != api.OK {
		return api.Config{}, api.ErrRange
	}
	return c, api.OK
}

// asModelled holds Decode of b, and, where that is a crossing, that its bytes are b.
func asModelled(t *testing.T, name string, b []byte) api.Errno {
	t.Helper()
	c, want := modelled(b)
	if want != api.OK {
		refuses(t, name, b, want)
		return want
	}
	decodes(t, name, b, c)
	if again, err := config.Encode(c); err != nil || !bytes.Equal(again, b) {
		t.Errorf("%s: Encode of the decoded: % x, %v, not % x", name, again, err, b)
	}
	return want
}

// P8.3, W5: what isn't sealed is ErrSum: nothing, one byte, two bytes that are not the sum of nothing.
func TestDecodeOfNothing(t *testing.T) {
	refuses(t, "nil", nil, api.ErrSum)
	refuses(t, "empty", []byte{}, api.ErrSum)
	for x := range 256 {
		refuses(t, "one byte", []byte{byte(x)}, api.ErrSum)
	}
	for x := range 1 << 16 {
		b := []byte{byte(x >> 8), byte(x)}
		if x == 0xffff {
			refuses(t, "the sum of nothing", b, api.ErrForm)
		} else {
			refuses(t, "two bytes", b, api.ErrSum)
		}
	}
}

// P8.3: bytes of which some bits are turned, all within sixteen.
func TestDecodeOfTurnedBits(t *testing.T) {
	for n := 1; n <= 8; n++ {
		b := crc.Seal(laid(ordinary(n)))
		for at := range b {
			for x := 1; x < 256; x++ {
				turned := bytes.Clone(b)
				turned[at] ^= byte(x)
				refuses(t, fmt.Sprint("turned at ", at), turned, api.ErrSum)
				if at > 0 {
					turned[at-1] ^= byte(3*x + at)
					refuses(t, fmt.Sprint("turned up to ", at), turned, api.ErrSum)
				}
			}
		}
	}
}

// P8.3: bytes that were not sealed, though they are those of a crossing, and such that were sealed twice.
func TestDecodeOfUnsealedAndSealedTwice(t *testing.T) {
	for n := 1; n <= 8; n++ {
		refuses(t, "unsealed", laid(ordinary(n)), api.ErrSum)
		refuses(t, "sealed twice", crc.Seal(crc.Seal(laid(ordinary(n)))), api.ErrForm)
	}
}

// P8.3: sealed bytes that do not begin with X B 1, each byte of these by itself, and all three, though all else be fine.
func TestDecodeOfOtherMarks(t *testing.T) {
	for n := 1; n <= 8; n++ {
		for at, right := range []byte("XB1") {
			for x := range 256 {
				if byte(x) == right {
					continue
				}
				b := laid(ordinary(n))
				b[at] = byte(x)
				refuses(t, fmt.Sprintf("%x at %d", x, at), crc.Seal(b), api.ErrForm)
			}
		}
		for _, mark := range []string{"\x00\x00\x00", "xb1", "XB2", "XB0", "XB\x01", "1BX", "BX1", "XXX", "\xff\xff\xff"} {
			b := laid(ordinary(n))
			copy(b, mark)
			refuses(t, mark, crc.Seal(b), api.ErrForm)
			refuses(t, mark+" ahead", crc.Seal(append([]byte(mark), laid(ordinary(n))...)), api.ErrForm)
		}
		refuses(t, "no mark", crc.Seal(laid(ordinary(n))[3:]), api.ErrForm)
	}
}

// P8.3: sealed bytes of each length, of each number of lines that they tell: but for one length they are ErrForm.
func TestDecodeOfEachLength(t *testing.T) {
	whole := laid(smallest(255))
	for n := range 256 {
		whole[3] = byte(n)
		for _, length := range lengths(n) {
			want := api.ErrForm
			if length == 24+14*n {
				want = api.ErrRange
				if n >= 1 && n <= 8 {
					want = api.OK
				}
			}
			if e := asModelled(t, fmt.Sprintf("%d lines, %d bytes", n, length), crc.Seal(whole[:length])); e != want {
				t.Errorf("%d lines, %d bytes: the model tells %v, not %v", n, length, e, want)
			}
		}
	}
}

// lengths are those of up to 10 lines, and those around n lines.
func lengths(n int) []int {
	var all []int
	for length := range 24 + 14*10 {
		all = append(all, length)
	}
	for k := max(n-2, 0); k <= min(n+2, 254); k++ {
		all = append(all, 24+14*k-2, 24+14*k-1, 24+14*k, 24+14*k+1, 24+14*k+2)
	}
	return all
}

// P8.3: the mark, or a part of it, sealed, and the mark and how many lines.
func TestDecodeOfTheMarkAlone(t *testing.T) {
	for _, text := range []string{"", "X", "XB", "XB1"} {
		refuses(t, text, crc.Seal([]byte(text)), api.ErrForm)
	}
	for n := range 256 {
		refuses(t, "mark and number", crc.Seal([]byte{'X', 'B', '1', byte(n)}), api.ErrForm)
	}
}

// P8.3: bytes behind a crossing, within its seal, and behind it: a byte 0 there leaves bytes that are sealed.
func TestDecodeOfBytesBehind(t *testing.T) {
	for n := 1; n <= 8; n++ {
		for more := 1; more <= 300; more++ {
			zeros := make([]byte, more)
			refuses(t, "zeros within", crc.Seal(append(laid(ordinary(n)), zeros...)), api.ErrForm)
			refuses(t, "zeros behind", append(crc.Seal(laid(ordinary(n))), zeros...), api.ErrForm)
			refuses(t, "others within", crc.Seal(append(laid(ordinary(n)), bytes.Repeat([]byte{1}, more)...)), api.ErrForm)
			asModelled(t, "others behind", append(crc.Seal(laid(ordinary(n))), bytes.Repeat([]byte{1}, more)...))
		}
	}
}

// P8.3: bytes that are missing, ahead, behind or in the middle, sealed again or not. (Here and there what is left tells by chance as many lines as it has bytes for.)
func TestDecodeOfBytesMissing(t *testing.T) {
	told := map[api.Errno]int{}
	for n := 1; n <= 8; n++ {
		whole := laid(ordinary(n))
		for i := range whole {
			for k := i + 1; k <= len(whole); k++ {
				left := slices.Delete(bytes.Clone(whole), i, k)
				e := asModelled(t, fmt.Sprintf("without %d to %d", i, k), crc.Seal(left))
				told[e]++
			}
		}
		sealed := crc.Seal(whole)
		for i := range sealed {
			asModelled(t, fmt.Sprint("up to ", i), sealed[:i])
			asModelled(t, fmt.Sprint("from ", i), sealed[i:])
		}
	}
	if told[api.OK] > 0 || told[api.ErrForm] < 10000 || told[api.ErrRange] > 10 {
		t.Error("told: ", told)
	}
}

// P8.3: where two errors fit, ErrSum is told ahead of ErrForm, and ErrForm ahead of ErrRange.
func TestWhichErrorIsTold(t *testing.T) {
	bad := ordinary(8)
	bad.Times.Warn, bad.Lines[7].Signal = 0, 0
	b := laid(bad)
	refuses(t, "range alone", crc.Seal(b), api.ErrRange)
	refuses(t, "range, and too short", crc.Seal(b[:len(b)-1]), api.ErrForm)
	refuses(t, "range, and too long", crc.Seal(append(bytes.Clone(b), 0)), api.ErrForm)
	refuses(t, "range, and no mark", crc.Seal(append([]byte("XB2"), b[3:]...)), api.ErrForm)
	refuses(t, "range, and another number of lines", crc.Seal(append([]byte("XB1\x07"), b[4:]...)), api.ErrForm)
	refuses(t, "range, and no lines told", crc.Seal(append([]byte("XB1\x00"), b[4:]...)), api.ErrForm)
	refuses(t, "range, and too many lines told", crc.Seal(append([]byte("XB1\x09"), b[4:]...)), api.ErrForm)
	for _, sealed := range [][]byte{crc.Seal(b), crc.Seal(b[:len(b)-1]), crc.Seal(append([]byte("XB2"), b[3:]...)), crc.Seal([]byte("XB1\x00")), crc.Seal(nil)} {
		for at := range sealed {
			for bit := range 8 {
				spoilt := bytes.Clone(sealed)
				spoilt[at] ^= 1 << bit
				refuses(t, "range, form and sum", spoilt, api.ErrSum)
			}
		}
	}
}

// P8.3: nine lines are told as beyond the bounds only where there are nine: else the form is wrong.
func TestNineLines(t *testing.T) {
	nine := laid(smallest(9))
	refuses(t, "nine", crc.Seal(nine), api.ErrRange)
	refuses(t, "nine less a byte", crc.Seal(nine[:len(nine)-1]), api.ErrForm)
	refuses(t, "nine less a line", crc.Seal(nine[:len(nine)-14]), api.ErrForm)
	refuses(t, "nine and a byte", crc.Seal(append(bytes.Clone(nine), 0)), api.ErrForm)
	nine[3] = 8
	refuses(t, "nine that tell eight", crc.Seal(nine), api.ErrForm)
}

// The document's examples: nothing: ErrSum. X B 1 and a byte 0, sealed: ErrForm. (P8.3)
func TestExamples(t *testing.T) {
	refuses(t, "nothing", nil, api.ErrSum)
	refuses(t, "X B 1 and a byte 0", crc.Seal([]byte{'X', 'B', '1', 0}), api.ErrForm)
	refuses(t, "X B 1, a byte 0 and times", crc.Seal(laid(ordinary(0))), api.ErrRange)
	refuses(t, "X B 1, a byte 0 and zeros", crc.Seal(append([]byte("XB1"), make([]byte, 21)...)), api.ErrRange)
}

// P8.5: crossings by dice, there and back; two that differ have other bytes.
func TestThereAndBackByDice(t *testing.T) {
	d := dice(5)
	last, lastBytes := d.thrown(), []byte(nil)
	for range 20000 {
		c := d.thrown()
		b, err := config.Encode(c)
		if err != nil || !bytes.Equal(b, crc.Seal(laid(c))) {
			t.Fatalf("%v: % x, %v", c, b, err)
		}
		got, err := config.Decode(b)
		if err != nil || !same(got, c) {
			t.Fatalf("% x: %v, %v, not %v", b, got, err, c)
		}
		if same(last, c) != bytes.Equal(lastBytes, b) && lastBytes != nil {
			t.Fatalf("%v and %v: % x and % x", last, c, lastBytes, b)
		}
		last, lastBytes = c, b
	}
}

// P8.3, P8.5: bytes that dice turned and sealed again are decoded as the document says, and what is decoded is encoded to the very bytes.
func TestTurnedAndSealedAgain(t *testing.T) {
	d := dice(9)
	told := map[api.Errno]int{}
	for range 40000 {
		b := laid(d.thrown())
		for range d.below(4) {
			b[d.below(len(b))] = byte([]int{d.below(256), d.below(4), 0}[d.below(3)])
		}
		switch d.below(8) {
		case 0:
			b = b[:d.below(len(b)+1)]
		case 1:
			b = append(b, make([]byte, d.below(30))...)
		}
		sealed := crc.Seal(b)
		if d.below(8) == 0 {
			sealed[d.below(len(sealed))] ^= byte(d.below(256))
		}
		told[asModelled(t, "dice", sealed)]++
	}
	for _, e := range []api.Errno{api.OK, api.ErrSum, api.ErrForm, api.ErrRange} {
		if told[e] < 1000 {
			t.Error("dice that throw too few of a kind: ", told)
		}
	}
}

// W1, P8.3: long rows of bytes, sealed and not.
func TestLongRows(t *testing.T) {
	for _, n := range []int{1000, 3594, 3595, 65536, 1 << 20} {
		asModelled(t, "zeros", make([]byte, n))
		asModelled(t, "zeros, sealed", crc.Seal(make([]byte, n)))
		b := append([]byte("XB1\xff"), make([]byte, n)...)
		asModelled(t, "mark", b)
		asModelled(t, "mark, sealed", crc.Seal(b))
	}
}

// roomy is b with spare room behind it that is not empty, and all of it.
func roomy(b []byte) (part, whole []byte) {
	whole = append(bytes.Clone(b), "spare room"...)
	return whole[:len(b)], whole
}

// roomyLines is c with spare room behind its lines that is not empty, and all these lines.
func roomyLines(c api.Config) (part api.Config, whole []api.Line) {
	whole = append(slices.Clone(c.Lines), ordinary(5).Lines...)
	part = c
	part.Lines = whole[:len(c.Lines)]
	return part, whole
}

// spoil changes b, and its spare room.
func spoil(b []byte) {
	b = b[:cap(b)]
	for i := range b {
		b[i] ^= 0xa5
	}
}

func spoilLines(lines []api.Line) {
	lines = lines[:cap(lines)]
	for i := range lines {
		lines[i].Strike ^= 0xa5
		lines[i].Signal ^= 0xa5
		for k := range lines[i].Speeds {
			lines[i].Speeds[k] ^= 0xa5
		}
	}
}

// P8.4, W6: lines that are handed in are not changed, nor their spare room, whether they may be or not.
func TestLinesAreNotChanged(t *testing.T) {
	for n := range 12 {
		for _, c := range []api.Config{ordinary(n), smallest(n), greatest(n)} {
			in, whole := roomyLines(c)
			before := slices.Clone(whole)
			config.Check(in)
			config.Encode(in)
			if !slices.Equal(whole, before) || !same(in, c) {
				t.Errorf("%d lines: changed", n)
			}
		}
	}
}

// P8.4, W6: bytes that are handed in are not changed, nor their spare room, whether they are those of a crossing or not.
func TestBytesAreNotChanged(t *testing.T) {
	for n := range 12 {
		for _, b := range [][]byte{laid(ordinary(n)), crc.Seal(laid(ordinary(n))), crc.Seal(laid(smallest(n))[:4]), {'X', 'B', '1'}} {
			in, whole := roomy(b)
			before := bytes.Clone(whole)
			config.Decode(in)
			if !bytes.Equal(whole, before) {
				t.Errorf("%d lines: changed", n)
			}
		}
	}
}

// P8.4, W6: the bytes that Encode answers are new: neither the crossing nor other answers change with them, nor they with those.
func TestEncodeAnswersNewMemory(t *testing.T) {
	for n := 1; n <= 8; n++ {
		want := crc.Seal(laid(ordinary(n)))
		in, whole := roomyLines(ordinary(n))
		first, _ := config.Encode(in)
		second, _ := config.Encode(in)
		spoilLines(whole)
		if !bytes.Equal(first, want) || !bytes.Equal(second, want) {
			t.Errorf("%d lines: the answer hangs on what was handed in", n)
		}
		spoil(first)
		if !bytes.Equal(second, want) {
			t.Errorf("%d lines: two answers share memory", n)
		}
		third, err := config.Encode(ordinary(n))
		if err != nil || !bytes.Equal(third, want) {
			t.Errorf("%d lines: an answer is kept", n)
		}
	}
}

// P8.4, W6: the lines that Decode answers are new: neither the bytes nor other answers change with them, nor they with those.
func TestDecodeAnswersNewMemory(t *testing.T) {
	for n := 1; n <= 8; n++ {
		want := ordinary(n)
		in, whole := roomy(crc.Seal(laid(want)))
		before := bytes.Clone(whole)
		first, _ := config.Decode(in)
		second, _ := config.Decode(in)
		spoilLines(first.Lines)
		if !same(second, want) {
			t.Errorf("%d lines: two answers share memory", n)
		}
		if !bytes.Equal(whole, before) {
			t.Errorf("%d lines: an answer shares memory with what was handed in", n)
		}
		spoil(whole)
		if !same(second, want) {
			t.Errorf("%d lines: the answer hangs on what was handed in", n)
		}
		third, err := config.Decode(before[:len(in)])
		if err != nil || !same(third, want) {
			t.Errorf("%d lines: an answer is kept", n)
		}
	}
}

// W2: an answer hangs on nothing that was asked ahead of it.
func TestAnswersHangOnNothingElse(t *testing.T) {
	c, b := known()
	d := dice(3)
	for range 2000 {
		other := d.thrown()
		config.Encode(other)
		config.Decode(crc.Seal(laid(other)))
		config.Check(api.Config{})
		config.Decode(nil)
		if got, err := config.Encode(c); err != nil || !bytes.Equal(got, b) {
			t.Fatalf("% x, %v", got, err)
		}
		decodes(t, "known", b, c)
	}
}
