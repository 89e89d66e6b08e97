package record_test

import (
	"bytes"
	"reflect"
	"slices"
	"testing"

	"crossbuck/api"
	"crossbuck/record"
)

const (
	least = api.MinInt
	most  = api.MaxInt
)

// dice are numbers that look like no rule, the same at each run.
type dice uint64

func (d *dice) bits() uint64 {
	*d = *d*6364136223846793005 + 1442695040888963407
	return uint64(*d)
}

func (d *dice) below(n int) int {
	return int(d.bits()>>33) % n
}

// rarely is true once in n times.
func (d *dice) rarely(n int) bool {
	return d.below(n) == 0
}

// number is one of any width and sign; every other one is of the greatest.
func (d *dice) number() int {
	high, low := d.bits(), d.bits()
	return int(high<<32^low>>16) >> (d.below(2) * d.below(64))
}

// near is one that is below a number, or nearly, or any.
func (d *dice) near(n int) int {
	if d.rarely(8) {
		return d.number()
	}
	return d.below(n+2) - 1
}

// tracks are any, up to n.
func (d *dice) tracks(n int) []api.Track {
	tracks := make([]api.Track, d.below(n+1))
	for i := range tracks {
		tracks[i] = api.Track{
			Axle:  api.Axle{Had: d.rarely(2), In: d.number(), Out: d.number(), Wrong: d.rarely(2)},
			Pair:  api.Pair{Lie: d.number(), Pos: d.number(), Jump: d.rarely(2)},
			Clear: d.rarely(2),
			Since: d.number(),
			Fault: d.rarely(2),
			Call:  d.rarely(2),
		}
	}
	return tracks
}

// numbers are those at which something changes, or nearly, and those that look fine as fewer bits.
var numbers = []int{least, least + 1, least + 5, least + 255, -1 << 62, -1 << 32, -1<<32 + 5, -65536, -65531, -512, -257, -256, -255, -254, -253, -252, -251, -250, -249, -248, -247, -129, -128, -127, -8, -7, -6, -5, -4, -3, -2, -1, 0, 1, 2, 3, 4, 5, 6, 7, 8, 9, 10, 15, 16, 127, 128, 129, 253, 254, 255, 256, 257, 260, 261, 263, 264, 384, 511, 512, 65535, 65536, 65541, 1 << 31, 1 << 32, 1<<32 + 5, 1 << 62, 1<<62 + 5, most - 255, most - 250, most - 1, most}

// isIn tells whether a number is one from 0 to last.
func isIn(n, last int) bool {
	return n >= 0 && n <= last
}

// one is a zero track, but with what is wrong with it.
func one(wrong, jump bool) api.Track {
	return api.Track{Axle: api.Axle{Wrong: wrong}, Pair: api.Pair{Jump: jump}}
}

// row are n tracks of which those are wrong, and jumped, that have a bit; there is room behind them, of tracks that no call is to look at.
func row(wrong, jump, n int) []api.Track {
	room := slices.Repeat([]api.Track{one(true, true)}, n+9)
	for i := range n {
		room[i] = one(place(wrong, i), place(jump, i))
	}
	return room[:n]
}

// place tells whether a number has the bit of a place.
func place(n, at int) bool {
	return uint64(n)&(1<<at) > 0
}

// values are what a track's bit counts, place by place.
var values = []int{1, 2, 4, 8, 16, 32, 64, 128}

// model is what Of is to answer, told place by place.
func model(r api.Road, tracks []api.Track) api.Record {
	rec := api.Record{Phase: r.Phase}
	for i, value := range values {
		if i < len(tracks) && tracks[i].Axle.Wrong {
			rec.Wrong += value
		}
		if i < len(tracks) && tracks[i].Pair.Jump {
			rec.Jump += value
		}
	}
	return rec
}

// tells holds an Of against what it is to answer, twice, and that what was handed in is as it was.
func tells(t *testing.T, what string, r api.Road, tracks []api.Track, want api.Record) {
	t.Helper()
	room := slices.Clone(tracks[:cap(tracks)])
	for range 2 {
		if got := record.Of(r, tracks); got != want {
			t.Fatalf("%s: Of(%+v, %d tracks): %+v, not %+v", what, r, len(tracks), got, want)
		}
	}
	if !slices.Equal(tracks[:cap(tracks)], room) {
		t.Fatalf("%s: Of changed what it was handed", what)
	}
}

// prints holds a Print against what it is to answer, twice.
func prints(t *testing.T, rec api.Record, want []byte) {
	t.Helper()
	for range 2 {
		if got := record.Print(rec); !bytes.Equal(got, want) {
			t.Fatalf("Print(%+v): % x, not % x", rec, got, want)
		}
	}
}

// parses holds a Parse against what it is to answer, twice, and that what was handed in is as it was.
func parses(t *testing.T, b []byte, want api.Record, ok bool) {
	t.Helper()
	room := slices.Clone(b[:cap(b)])
	for range 2 {
		if got, is := record.Parse(b); got != want || is != ok {
			t.Fatalf("Parse(% x): %+v, %t, not %+v, %t", b, got, is, want, ok)
		}
	}
	if !bytes.Equal(b[:cap(b)], room) {
		t.Fatalf("Parse(% x) changed what it was handed: % x, not % x", b, b[:cap(b)], room)
	}
}

// P25.1: the phase as it is, whether it is one or not; Since does not matter.
func TestOfPhase(t *testing.T) {
	for _, p := range numbers {
		for _, since := range numbers {
			r := api.Road{Phase: p, Since: since}
			tells(t, "phase", r, nil, api.Record{Phase: p})
			tells(t, "phase", r, row(5, 3, 4), api.Record{Phase: p, Wrong: 5, Jump: 3})
		}
	}
}

// P25.1, W5: no tracks have no bits.
func TestOfNoTracks(t *testing.T) {
	for p := range 9 {
		r, want := api.Road{Phase: p}, api.Record{Phase: p}
		tells(t, "nil", r, nil, want)
		tells(t, "empty", r, []api.Track{}, want)
		tells(t, "room alone", r, row(0, 0, 0), want)
	}
}

// P25.1: tracks told one by one.
func TestOf(t *testing.T) {
	no, axles, treadles, both := one(false, false), one(true, false), one(false, true), one(true, true)
	for _, x := range []struct {
		tracks      []api.Track
		wrong, jump int
	}{
		{[]api.Track{no}, 0, 0},
		{[]api.Track{axles}, 1, 0},
		{[]api.Track{treadles}, 0, 1},
		{[]api.Track{both}, 1, 1},
		{[]api.Track{no, axles}, 2, 0},
		{[]api.Track{no, treadles}, 0, 2},
		{[]api.Track{axles, treadles}, 1, 2},
		{[]api.Track{treadles, axles}, 2, 1},
		{[]api.Track{both, both}, 3, 3},
		{[]api.Track{axles, no, both}, 5, 4},
		{[]api.Track{no, both, treadles}, 2, 6},
		{[]api.Track{no, no, no, axles, no, no, no}, 8, 0},
		{[]api.Track{axles, no, no, no, no, no, treadles}, 1, 64},
		{[]api.Track{no, no, no, no, no, no, axles}, 64, 0},
		{[]api.Track{no, no, no, no, no, no, no, axles}, 128, 0},
		{[]api.Track{no, no, no, no, no, no, no, treadles}, 0, 128},
		{[]api.Track{both, both, both, both, both, both, both, both}, 255, 255},
		{[]api.Track{axles, axles, axles, axles, treadles, treadles, treadles, treadles}, 15, 240},
		{[]api.Track{no, no, no, no, no, no, no, no, axles}, 0, 0},
		{[]api.Track{no, no, no, no, no, no, no, no, both, both}, 0, 0},
		{[]api.Track{no, no, no, no, no, no, no, axles, treadles}, 128, 0},
		{[]api.Track{treadles, no, no, no, no, no, no, no, axles, axles}, 0, 1},
	} {
		for _, p := range []int{0, 5, 7} {
			tells(t, "told", api.Road{Phase: p, Since: 4}, x.tracks, api.Record{Phase: p, Wrong: x.wrong, Jump: x.jump})
		}
	}
}

// P25.1: each bit of each number of tracks, each alone, all but it, one told without the other, and with it; those behind the eighth do not matter.
func TestOfBits(t *testing.T) {
	r := api.Road{Phase: api.PhaseDown}
	for _, n := range []int{0, 1, 2, 3, 4, 5, 6, 7, 8, 9, 10, 11, 12, 15, 16, 17, 31, 32, 33, 62, 63, 64} {
		all := 1<<min(n, 8) - 1
		for at := range 64 {
			for _, told := range []int{1 << at, -1 ^ 1<<at, -1 << at, 1<<at - 1} {
				for _, other := range []int{0, 165, -1, told} {
					tells(t, "bits", r, row(told, other, n), api.Record{Phase: 5, Wrong: told & all, Jump: other & all})
					tells(t, "bits", r, row(other, told, n), api.Record{Phase: 5, Wrong: other & all, Jump: told & all})
				}
			}
		}
	}
	for told := range 512 {
		for other := range 512 {
			tells(t, "each", r, row(told, other, 9), api.Record{Phase: 5, Wrong: told % 256, Jump: other % 256})
		}
	}
}

// P25.1: many tracks have no more bits than eight.
func TestOfManyTracks(t *testing.T) {
	for _, n := range []int{9, 63, 64, 65, 66, 72, 127, 128, 129, 255, 256, 257, 264, 1000, 70000} {
		tracks := slices.Repeat([]api.Track{one(true, true)}, n)
		tells(t, "all", api.Road{}, tracks, api.Record{Wrong: 255, Jump: 255})
		copy(tracks, make([]api.Track, 8))
		tells(t, "all but eight", api.Road{}, tracks, api.Record{})
		tracks[2] = one(true, false)
		tells(t, "all but seven", api.Road{}, tracks, api.Record{Wrong: 4})
	}
}

// otherwise calls tell once behind each change of one of the fields of what x points to, those of fields of it among them, but of those that are told to be kept; each is as it was behind it. It answers how many fields it changed.
func otherwise(x any, kept []string, tell func(name string)) int {
	return vary(reflect.ValueOf(x).Elem(), "", kept, tell)
}

func vary(v reflect.Value, name string, kept []string, tell func(name string)) int {
	if slices.Contains(kept, name) {
		return 0
	}
	was, changed := reflect.New(v.Type()).Elem(), 1
	was.Set(v)
	switch v.Kind() {
	case reflect.Struct:
		changed = 0
		for k := range v.NumField() {
			changed += vary(v.Field(k), v.Type().Field(k).Name, kept, tell)
		}
	case reflect.Bool:
		v.SetBool(!v.Bool())
		tell(name)
	case reflect.Int:
		for _, n := range numbers {
			v.SetInt(int64(n))
			tell(name)
		}
	}
	v.Set(was)
	return changed
}

// P25.1: no other field of a track matters, each told otherwise, one by one, in each place, over tracks with and without each bit.
func TestOfOtherFields(t *testing.T) {
	r := api.Road{Phase: 4, Since: 9}
	for _, x := range []struct{ wrong, jump int }{{0, 0}, {255, 0}, {0, 255}, {255, 255}, {170, 204}, {85, 15}} {
		tracks := row(x.wrong, x.jump, 8)
		for i := range tracks {
			tell := func(name string) {
				tells(t, name, r, tracks, api.Record{Phase: 4, Wrong: x.wrong, Jump: x.jump})
			}
			if n := otherwise(&tracks[i], []string{"Wrong", "Jump"}, tell); n != 9 {
				t.Errorf("%d fields of a track", n)
			}
		}
	}
}

// P25.1: neither do all of them together.
func TestOfTracksAsTheyAre(t *testing.T) {
	worst := api.Track{Axle: api.Axle{In: 3, Out: 9}, Pair: api.Pair{Lie: 1, Pos: 5}, Since: api.MaxSince, Fault: true, Call: true}
	best := api.Track{Axle: api.Axle{Had: true, In: 4, Out: 4}, Clear: true}
	tells(t, "worst, best", api.Road{Phase: 1}, []api.Track{worst, best, worst}, api.Record{Phase: 1})
	worst.Axle.Wrong, best.Pair.Jump = true, true
	tells(t, "and both", api.Road{Phase: 1}, []api.Track{worst, best, worst}, api.Record{Phase: 1, Wrong: 5, Jump: 2})
}

// P25.1: Of by dice.
func TestOfByDice(t *testing.T) {
	d := dice(1)
	for range 100000 {
		r, tracks := api.Road{Phase: d.near(8), Since: d.number()}, d.tracks(12)
		tells(t, "dice", r, tracks, model(r, tracks))
	}
}

// P25.2: the document's example.
func TestExample(t *testing.T) {
	prints(t, api.Record{Phase: api.PhaseDown, Wrong: 1}, []byte{5, 1, 0})
	parses(t, []byte{5, 1, 0}, api.Record{Phase: api.PhaseDown, Wrong: 1}, true)
}

// P25.2: records told one by one.
func TestPrint(t *testing.T) {
	for _, x := range []struct {
		phase, wrong, jump int
		want               []byte
	}{
		{0, 0, 0, []byte{0, 0, 0}},
		{1, 2, 3, []byte{1, 2, 3}},
		{7, 255, 255, []byte{7, 255, 255}},
		{7, 0, 255, []byte{7, 0, 255}},
		{3, 128, 254, []byte{3, 128, 254}},
		{6, 255, 0, []byte{6, 255, 0}},
		{0, 127, 129, []byte{0, 127, 129}},
		{8, 0, 0, nil},
		{8, 255, 255, nil},
		{255, 0, 0, nil},
		{256, 0, 0, nil},
		{261, 1, 0, nil},
		{-1, 0, 0, nil},
		{-251, 1, 0, nil},
		{least, 0, 0, nil},
		{most, 0, 0, nil},
		{5, 256, 0, nil},
		{5, 257, 0, nil},
		{5, -1, 0, nil},
		{5, least, 0, nil},
		{5, most, 0, nil},
		{5, 0, 256, nil},
		{5, 0, 511, nil},
		{5, 0, -1, nil},
		{5, 0, least, nil},
		{5, 0, most, nil},
		{0, 256, 256, nil},
		{-1, -1, -1, nil},
		{8, 256, 256, nil},
	} {
		prints(t, api.Record{Phase: x.phase, Wrong: x.wrong, Jump: x.jump}, x.want)
	}
}

// P25.2: each number at all edges beside each other, alone and together.
func TestPrintNumbers(t *testing.T) {
	for _, phase := range numbers {
		for _, wrong := range numbers {
			for _, jump := range numbers {
				rec := api.Record{Phase: phase, Wrong: wrong, Jump: jump}
				if isIn(phase, 7) && isIn(wrong, 255) && isIn(jump, 255) {
					prints(t, rec, []byte{byte(phase), byte(wrong), byte(jump)})
					continue
				}
				prints(t, rec, nil)
			}
		}
	}
	for n := -1100; n <= 1100; n++ {
		alone(t, n)
	}
	for at := range 64 {
		for _, n := range []int{1 << at, 1<<at + 5, 1<<at - 1, -1 << at, -1<<at + 5, -1<<at - 1} {
			alone(t, n)
		}
	}
}

// alone holds what is printed where one number alone is n.
func alone(t *testing.T, n int) {
	t.Helper()
	phase, wrong, jump := []byte{byte(n), 9, 200}, []byte{2, byte(n), 200}, []byte{2, 9, byte(n)}
	if !isIn(n, 7) {
		phase = nil
	}
	if !isIn(n, 255) {
		wrong, jump = nil, nil
	}
	prints(t, api.Record{Phase: n, Wrong: 9, Jump: 200}, phase)
	prints(t, api.Record{Phase: 2, Wrong: n, Jump: 200}, wrong)
	prints(t, api.Record{Phase: 2, Wrong: 9, Jump: n}, jump)
}

// P25.2, W5: bytes that are not three are none of a record, whatever they are.
func TestParseLengths(t *testing.T) {
	parses(t, nil, api.Record{}, false)
	parses(t, []byte{}, api.Record{}, false)
	for _, n := range []int{0, 1, 2, 4, 5, 6, 7, 8, 9, 40, 255, 256, 257, 258, 259, 65536 + 3} {
		for _, b := range []byte{0, 1, 3, 5, 7, 8, 128, 255} {
			room := slices.Repeat([]byte{b}, n+3)
			parses(t, room[:n], api.Record{}, false)
			parses(t, room[:n:n], api.Record{}, false)
		}
	}
	b := []byte{5, 1, 2, 0}
	parses(t, b[:2], api.Record{}, false)
	parses(t, b[:3], api.Record{Phase: 5, Wrong: 1, Jump: 2}, true)
	parses(t, b, api.Record{}, false)
	parses(t, b[1:], api.Record{Phase: 1, Wrong: 2}, true)
	parses(t, b[2:], api.Record{}, false)
}

// P25.2: three bytes told one by one.
func TestParse(t *testing.T) {
	for _, x := range []struct {
		b    []byte
		want api.Record
		ok   bool
	}{
		{[]byte{0, 0, 0}, api.Record{}, true},
		{[]byte{1, 2, 3}, api.Record{Phase: 1, Wrong: 2, Jump: 3}, true},
		{[]byte{7, 0, 255}, api.Record{Phase: 7, Jump: 255}, true},
		{[]byte{7, 255, 0}, api.Record{Phase: 7, Wrong: 255}, true},
		{[]byte{0, 128, 254}, api.Record{Wrong: 128, Jump: 254}, true},
		{[]byte{8, 0, 0}, api.Record{}, false},
		{[]byte{8, 1, 2}, api.Record{}, false},
		{[]byte{128, 0, 0}, api.Record{}, false},
		{[]byte{133, 1, 0}, api.Record{}, false},
		{[]byte{255, 255, 255}, api.Record{}, false},
	} {
		parses(t, x.b, x.want, x.ok)
	}
}

// P25.2: each first byte with others at all edges, and each other byte.
func TestParseBytes(t *testing.T) {
	edges := []byte{0, 1, 7, 8, 127, 128, 129, 254, 255}
	for first := range 256 {
		for _, second := range edges {
			for _, third := range edges {
				b := []byte{byte(first), second, third}
				if first > 7 {
					parses(t, b, api.Record{}, false)
					continue
				}
				parses(t, b, api.Record{Phase: first, Wrong: int(second), Jump: int(third)}, true)
			}
		}
	}
	for n := range 256 {
		parses(t, []byte{4, byte(n), 17}, api.Record{Phase: 4, Wrong: n, Jump: 17}, true)
		parses(t, []byte{4, 17, byte(n)}, api.Record{Phase: 4, Wrong: 17, Jump: n}, true)
	}
}

// P25.3, W6: two answers of Print share no memory, spare room too: what is written into one, or appended to it, is not seen in the other.
func TestAnswersShareNothing(t *testing.T) {
	for _, rec := range []api.Record{{}, {Phase: 5, Wrong: 1}, {Phase: 7, Wrong: 255, Jump: 255}} {
		want := []byte{byte(rec.Phase), byte(rec.Wrong), byte(rec.Jump)}
		a, b := record.Print(rec), record.Print(rec)
		room := a[:cap(a)]
		for i := range room {
			room[i] = 99
		}
		if !bytes.Equal(b, want) {
			t.Errorf("%+v: % x", rec, b)
		}
		spare := slices.Clone(b[:cap(b)])
		a = append(a, 98, 98, 98)
		a = append(a[:0], 97, 97, 97, 97)
		c := record.Print(rec)
		c = append(c, slices.Repeat([]byte{96}, 9)...)
		if !bytes.Equal(b[:cap(b)], spare) || !bytes.Equal(c[:3], want) {
			t.Errorf("%+v: % x, % x", rec, b, c)
		}
		prints(t, rec, want)
	}
	for _, rec := range []api.Record{{Phase: 8}, {Wrong: 256}} {
		a := append(record.Print(rec), 1, 2, 3)
		prints(t, rec, nil)
		if !bytes.Equal(a, []byte{1, 2, 3}) {
			t.Errorf("% x", a)
		}
	}
}

// P25.3: what is written behind a call into what it was handed is not seen in what it answered, and is asked anew in the next.
func TestNothingKept(t *testing.T) {
	r, tracks := api.Road{Phase: 3, Since: 1}, row(6, 1, 4)
	rec := record.Of(r, tracks)
	for i := range tracks {
		tracks[i] = one(true, true)
	}
	if rec != (api.Record{Phase: 3, Wrong: 6, Jump: 1}) {
		t.Errorf("%+v", rec)
	}
	tells(t, "now", r, tracks, api.Record{Phase: 3, Wrong: 15, Jump: 15})
	tells(t, "those ahead", r, tracks[:2], api.Record{Phase: 3, Wrong: 3, Jump: 3})
	b := []byte{6, 5, 4, 3}
	got, ok := record.Parse(b[:3])
	copy(b, []byte{1, 1, 1, 1})
	if got != (api.Record{Phase: 6, Wrong: 5, Jump: 4}) || !ok {
		t.Errorf("%+v, %t", got, ok)
	}
	parses(t, b[:3], api.Record{Phase: 1, Wrong: 1, Jump: 1}, true)
	b[0] = 8
	parses(t, b[:3], api.Record{}, false)
}

// P25.4: what was printed is read as it was, of each record that has bytes; none has those of another.
func TestEachRecord(t *testing.T) {
	seen := make(map[[3]byte]int, 1<<19)
	for n := range 1 << 19 {
		rec := api.Record{Phase: n >> 16, Wrong: n >> 8 & 255, Jump: n & 255}
		b := record.Print(rec)
		if len(b) != 3 {
			t.Fatalf("%+v: % x", rec, b)
		}
		if got, ok := record.Parse(b); got != rec || !ok {
			t.Fatalf("%+v: %+v, %t", rec, got, ok)
		}
		seen[[3]byte(b)]++
	}
	if len(seen) != 1<<19 {
		t.Errorf("%d records have bytes of their own", len(seen))
	}
}

// P25.4: bytes that are read as a record are just what is printed of it; a record that has no bytes is never read.
func TestOneForm(t *testing.T) {
	d := dice(2)
	read, none := 0, 0
	for range 200000 {
		b := make([]byte, 3)
		if d.rarely(8) {
			b = make([]byte, d.below(6))
		}
		for i := range b {
			b[i] = byte(d.bits() >> 33)
		}
		if len(b) > 0 && d.rarely(2) {
			b[0] = byte(d.below(10))
		}
		rec, ok := record.Parse(b)
		if !ok {
			none++
			if rec != (api.Record{}) || len(b) == 3 && b[0] < 8 {
				t.Fatalf("% x: %+v", b, rec)
			}
			continue
		}
		read++
		prints(t, rec, b)
	}
	if read < 10000 || none < 10000 {
		t.Errorf("%d read, %d not", read, none)
	}
}

// P25.4: records by dice: those that have bytes are read as they were, and unlike ones have unlike bytes.
func TestRecordsByDice(t *testing.T) {
	d := dice(3)
	had, none := 0, 0
	var last api.Record
	for range 200000 {
		rec := api.Record{Phase: d.near(8), Wrong: d.near(256), Jump: d.near(256)}
		b := record.Print(rec)
		if is := isIn(rec.Phase, 7) && isIn(rec.Wrong, 255) && isIn(rec.Jump, 255); is != (len(b) == 3) {
			t.Fatalf("%+v: % x", rec, b)
		}
		if len(b) == 0 {
			none++
			continue
		}
		had++
		parses(t, b, rec, true)
		if rec != last && bytes.Equal(b, record.Print(last)) {
			t.Fatalf("%+v, %+v: % x", rec, last, b)
		}
		last = rec
	}
	if had < 10000 || none < 10000 {
		t.Errorf("%d have bytes, %d not", had, none)
	}
}

// P25.4: whatever Of tells of a road in a phase has three bytes, however many tracks there are.
func TestOfHasBytes(t *testing.T) {
	d := dice(4)
	for range 100000 {
		r, tracks := api.Road{Phase: d.below(8), Since: d.number()}, d.tracks(70)
		rec := record.Of(r, tracks)
		prints(t, rec, []byte{byte(r.Phase), byte(rec.Wrong), byte(rec.Jump)})
		parses(t, record.Print(rec), rec, true)
	}
	for _, p := range numbers {
		if b := record.Print(record.Of(api.Road{Phase: p}, d.tracks(9))); isIn(p, 7) != (len(b) == 3) {
			t.Errorf("phase %d: % x", p, b)
		}
	}
}
