package events_test

import (
	"reflect"
	"slices"
	"testing"

	"crossbuck/api"
	"crossbuck/events"
)

const (
	least = api.MinInt
	most  = api.MaxInt
)

// size is what New is given, and for how many events there is room then.
type size struct{ given, room int }

// sizes are all edges; those that look fine, or small, as fewer bits, too.
func sizes() []size {
	return []size{
		{least, 1}, {least + 1, 1}, {least + 5, 1}, {least + 64, 1}, {-1 << 62, 1}, {-1<<32 + 5, 1}, {-65531, 1}, {-1025, 1}, {-1024, 1}, {-1023, 1}, {-251, 1}, {-64, 1}, {-3, 1}, {-2, 1}, {-1, 1}, {0, 1},
		{1, 1}, {2, 2}, {3, 3}, {4, 4}, {5, 5}, {7, 7}, {8, 8}, {9, 9}, {63, 63}, {64, 64}, {65, 65}, {127, 127}, {128, 128}, {129, 129}, {255, 255}, {256, 256}, {257, 257}, {512, 512}, {1000, 1000}, {1022, 1022}, {1023, 1023}, {1024, 1024},
		{1025, 1024}, {1026, 1024}, {1029, 1024}, {2048, 1024}, {4096, 1024}, {65536, 1024}, {65541, 1024}, {1 << 31, 1024}, {1 << 32, 1024}, {1<<32 + 5, 1024}, {1 << 62, 1024}, {most - 1, 1024}, {most, 1024},
	}
}

// rooms are those of the logs of the other tests.
func rooms() []int {
	return []int{1, 2, 3, 4, 5, 7, 8, 9, 63, 64, 65, 1023, 1024}
}

// dice are numbers that look like no rule, the same at each run.
type dice uint64

func (d *dice) bits() uint64 {
	*d = *d*6364136223846793005 + 1442695040888963407
	return uint64(*d)
}

func (d *dice) below(n int) int {
	return int(d.bits()>>33) % n
}

// number is one of any width and sign; every other one is of the greatest.
func (d *dice) number() int {
	high, low := d.bits(), d.bits()
	return int(high<<32^low>>16) >> (d.below(2) * d.below(64))
}

// event is any; every third one is one of few, so that some come again.
func (d *dice) event() api.Event {
	if d.below(3) == 0 {
		return api.Event{At: uint64(d.below(2)), Code: d.below(3), Arg: d.below(2)}
	}
	return api.Event{At: uint64(d.number()), Code: d.number(), Arg: d.number()}
}

// nth is an event that is like that of no other n.
func nth(n int) api.Event {
	return api.Event{At: uint64(7 * n), Code: n%6 - 1, Arg: 1000000 - n}
}

// numbers are those at which something might change, the codes of package api, and codes that are none of these.
func numbers() []int {
	return []int{least, least + 1, -1 << 32, -257, -256, -2, -1, 0, api.EventPhase, api.EventSignals, api.EventFaults, api.EventJournal, 5, 99, 255, 256, 1 << 31, 1 << 32, 1<<32 + 1, 1 << 62, most - 1, most}
}

// times are those of events, at all edges.
func times() []uint64 {
	return []uint64{0, 1, 2, 255, 256, 1<<32 - 1, 1 << 32, 1<<63 - 1, 1 << 63, 1<<63 + 1, api.MaxTick - 1, api.MaxTick}
}

// model is a plain list of all that was added, beside the log that is held against it.
type model struct {
	t    *testing.T
	l    *events.Log
	room int
	all  []api.Event
}

// empty is a new log with room for so many events.
func empty(t *testing.T, room int) *model {
	return &model{t: t, l: events.New(room), room: room}
}

// there are those that should be there: all from the first one on from which there is room for the rest.
func (m *model) there() []api.Event {
	for i := range m.all {
		if len(m.all)-i <= m.room {
			return m.all[i:]
		}
	}
	return nil
}

// add adds to both, and asks nothing.
func (m *model) add(e api.Event) {
	m.l.Add(e)
	m.all = append(m.all, e)
}

// adds adds so many events, each like no other, and asks nothing.
func (m *model) adds(n int) {
	for range n {
		m.add(nth(len(m.all)))
	}
}

// holds holds what the log tells, asked in both orders, for being asked changes nothing.
func (m *model) holds() {
	m.t.Helper()
	there := m.there()
	for range 2 {
		lost := m.l.Lost()
		all := m.l.All()
		if !slices.Equal(all, there) {
			m.t.Fatalf("room for %d, %d added: %d events, not %d, or others: %+v, not %+v", m.room, len(m.all), len(all), len(there), ends(all), ends(there))
		}
		if again := m.l.Lost(); lost != len(m.all)-len(there) || again != lost {
			m.t.Fatalf("room for %d, %d added: Lost %d, then %d, not %d", m.room, len(m.all), lost, again, len(m.all)-len(there))
		}
		if len(all)+lost != len(m.all) {
			m.t.Fatalf("room for %d, %d added: %d there, %d lost", m.room, len(m.all), len(all), lost)
		}
	}
}

// ends are the first ones of a list, and its last one, as a long list is not told whole.
func ends(all []api.Event) []api.Event {
	if len(all) <= 5 {
		return all
	}
	return append(slices.Clone(all[:4]), all[len(all)-1])
}

// P24.2: the document's example: of room for 1, two events: the second one; Lost 1.
func TestExample(t *testing.T) {
	l := events.New(1)
	l.Add(api.Event{At: 3, Code: api.EventPhase, Arg: api.PhaseAmber})
	l.Add(api.Event{At: 8, Code: api.EventSignals, Arg: 5})
	if all := l.All(); len(all) != 1 || all[0] != (api.Event{At: 8, Code: 2, Arg: 5}) {
		t.Errorf("%+v", all)
	}
	if lost := l.Lost(); lost != 1 {
		t.Error(lost)
	}
}

// P24.1: a log of no events, none of which is lost.
func TestNew(t *testing.T) {
	for _, x := range sizes() {
		l := events.New(x.given)
		for range 3 {
			if all, lost := l.All(), l.Lost(); len(all) != 0 || lost != 0 {
				t.Fatalf("New(%d): %+v, Lost %d", x.given, ends(all), lost)
			}
		}
	}
}

// P24.1: as many events stay as there is room for; of one more, and of several times as many, just so many are there.
func TestRoom(t *testing.T) {
	for _, x := range sizes() {
		m := &model{t: t, l: events.New(x.given), room: x.room}
		m.adds(x.room)
		if got, lost := len(m.l.All()), m.l.Lost(); got != x.room || lost != 0 {
			t.Fatalf("New(%d): of %d events %d are there, Lost %d", x.given, x.room, got, lost)
		}
		m.adds(1)
		if all, lost := m.l.All(), m.l.Lost(); len(all) != x.room || lost != 1 || all[0] != nth(1) {
			t.Fatalf("New(%d): of one event more %d are there, Lost %d, the first %+v", x.given, len(all), lost, ends(all))
		}
		m.holds()
		for range 5 {
			m.adds(x.room)
			m.holds()
		}
	}
}

// P24.1: each size, and one behind each end.
func TestEachSize(t *testing.T) {
	for given := -2; given <= 1030; given++ {
		room := given
		if given < 1 {
			room = 1
		}
		if given > 1024 {
			room = 1024
		}
		m := &model{t: t, l: events.New(given), room: room}
		m.adds(room)
		m.holds()
		m.adds(1)
		m.holds()
		m.adds(room + room/2)
		m.holds()
	}
}

// P24.2: what is there, and how many are lost, step by step: none, one, one less than there is room for, just as many, one more, twice as many, one more than twice.
func TestAddStepByStep(t *testing.T) {
	for _, room := range rooms() {
		m := empty(t, room)
		m.holds()
		for range 2*room + 3 {
			m.adds(1)
			m.holds()
		}
	}
}

// P24.2: many times as many: step by step where there is little room, now and then where there is much.
func TestAddManyTimes(t *testing.T) {
	for _, room := range rooms() {
		step := max(room/8-1, 1)
		m := empty(t, room)
		for len(m.all) < 40*room+100 {
			m.adds(step)
			m.holds()
		}
	}
	for room := 1; room < 80; room++ {
		m := empty(t, room)
		for range 8 * room {
			m.adds(1)
			m.holds()
		}
	}
}

// P24.2: nothing is lost as long as there is room; then one more at each Add.
func TestLost(t *testing.T) {
	for _, room := range rooms() {
		l := events.New(room)
		for n := range 4*room + 5 {
			want := 0
			if n > room {
				want = n - room
			}
			if got := l.Lost(); got != want {
				t.Fatalf("room for %d: behind %d events: Lost %d, not %d", room, n, got, want)
			}
			l.Add(api.Event{})
		}
	}
}

// P24.2: many more are lost than there is room for, more than fewer bits would count; those that are there are still the last ones.
func TestLostMany(t *testing.T) {
	for _, x := range []struct{ room, many int }{{1, 70000}, {3, 1<<24 + 10}, {64, 1<<20 + 3}, {1000, 1<<20 + 3}, {1024, 1<<20 + 3}} {
		l := events.New(x.room)
		for n := range x.many {
			l.Add(nth(n))
			if got, want := l.Lost(), max(n+1-x.room, 0); got != want {
				t.Fatalf("room for %d: behind %d events: Lost %d, not %d", x.room, n+1, got, want)
			}
		}
		all := l.All()
		if len(all) != x.room {
			t.Fatalf("room for %d: behind %d events: %d are there", x.room, x.many, len(all))
		}
		for i, e := range all {
			if want := nth(x.many - x.room + i); e != want {
				t.Fatalf("room for %d: behind %d events: at place %d %+v, not %+v", x.room, x.many, i, e, want)
			}
		}
	}
}

// P24.2: a log that is asked only once, behind many events, tells the same as one that is asked ahead of each (W2).
func TestNeverAsked(t *testing.T) {
	for _, room := range []int{1, 2, 3, 7, 64, 65, 1024} {
		for _, n := range []int{0, 1, room - 1, room, room + 1, 2*room - 1, 2 * room, 2*room + 1, 5*room + 2} {
			silent, asked := empty(t, room), empty(t, room)
			silent.adds(n)
			for range n {
				asked.l.All()
				asked.adds(1)
				asked.l.Lost()
			}
			silent.holds()
			asked.holds()
		}
	}
}

// P24.2: rows told one by one; an event is told by its Arg alone.
func TestKnown(t *testing.T) {
	for _, x := range []struct {
		room int
		args []int
		want []int
		lost int
	}{
		{1, nil, nil, 0},
		{1, []int{5}, []int{5}, 0},
		{1, []int{5, 6, 7}, []int{7}, 2},
		{2, []int{5}, []int{5}, 0},
		{2, []int{5, 6}, []int{5, 6}, 0},
		{2, []int{5, 6, 7}, []int{6, 7}, 1},
		{2, []int{5, 6, 7, 8}, []int{7, 8}, 2},
		{2, []int{5, 6, 7, 8, 9}, []int{8, 9}, 3},
		{3, []int{5, 6, 7}, []int{5, 6, 7}, 0},
		{3, []int{5, 6, 7, 8}, []int{6, 7, 8}, 1},
		{3, []int{5, 6, 7, 8, 9}, []int{7, 8, 9}, 2},
		{3, []int{5, 6, 7, 8, 9, 1}, []int{8, 9, 1}, 3},
		{3, []int{5, 6, 7, 8, 9, 1, 2}, []int{9, 1, 2}, 4},
		{3, []int{9, 9, 9, 9}, []int{9, 9, 9}, 1},
		{3, []int{3, 2, 1, 0}, []int{2, 1, 0}, 1},
		{4, []int{1, 1, 2, 2, 1, 1}, []int{2, 2, 1, 1}, 2},
	} {
		l := events.New(x.room)
		for _, arg := range x.args {
			l.Add(api.Event{Arg: arg})
		}
		var args []int
		for _, e := range l.All() {
			args = append(args, e.Arg)
		}
		if lost := l.Lost(); !slices.Equal(args, x.want) || lost != x.lost {
			t.Errorf("room for %d, %v: %v, Lost %d, not %v, %d", x.room, x.args, args, lost, x.want, x.lost)
		}
	}
}

// P24.2: the same event, added again, is there as often as it was added.
func TestSameAgain(t *testing.T) {
	same := api.Event{At: 4, Code: api.EventFaults, Arg: 3}
	for _, e := range []api.Event{same, {}} {
		for _, room := range []int{1, 2, 3, 4, 64} {
			m := empty(t, room)
			for range 3*room + 1 {
				m.add(e)
				m.holds()
			}
		}
		m := empty(t, 5)
		for _, e := range []api.Event{e, e, {Arg: 9}, e, e, e, {Arg: 9}, e} {
			m.add(e)
			m.holds()
		}
	}
}

// P24.2: each field of an event is told as it was added, in a log with room, and in one that is full, with others ahead and behind.
func TestFields(t *testing.T) {
	few, full, one := empty(t, 1024), empty(t, 3), empty(t, 1)
	for _, at := range times() {
		for _, code := range numbers() {
			for _, arg := range numbers() {
				e := api.Event{At: at, Code: code, Arg: arg}
				for _, m := range []*model{few, full, one} {
					m.add(e)
					all := m.l.All()
					if last := all[len(all)-1]; last.At != at || last.Code != code || last.Arg != arg {
						t.Fatalf("%+v is told as %+v", e, last)
					}
				}
				full.holds()
				one.holds()
			}
		}
		few.holds()
	}
	if n := reflect.TypeFor[api.Event]().NumField(); n != 3 {
		t.Errorf("an event has %d fields", n)
	}
}

// P24.2: events stand in the order in which they were added, however their times, codes and Args stand.
func TestOrderOfAdding(t *testing.T) {
	row := []api.Event{{At: 9}, {At: 3}, {At: api.MaxTick}, {At: 0}, {At: 3}, {At: 1 << 63}, {At: 1}, {At: 9, Code: 4}, {At: 9, Code: 1}, {At: 9, Code: 1, Arg: 5}, {At: 9, Code: 1, Arg: -5}, {At: 9, Code: -1}}
	for room := 1; room <= len(row)+1; room++ {
		m := empty(t, room)
		for range 3 {
			for _, e := range row {
				m.add(e)
				m.holds()
			}
		}
	}
}

// strange is an event that no test adds.
var strange = api.Event{At: 123456789, Code: -77, Arg: 987654321}

// spoil writes into each place of a list, and into its spare room.
func spoil(all []api.Event) {
	all = all[:cap(all)]
	for i := range all {
		all[i] = strange
	}
}

// P24.3, W6: what is written into what All answered, at each place alone, is not seen any more, not in another All either.
func TestAnswersAreNew(t *testing.T) {
	for _, room := range []int{1, 2, 3, 5, 64} {
		for n := range 3*room + 2 {
			m := empty(t, room)
			m.adds(n)
			ahead := m.l.All()
			for i := range m.there() {
				some := m.l.All()
				some[i] = strange
				m.holds()
			}
			spoil(m.l.All())
			m.holds()
			if !slices.Equal(ahead, m.there()) {
				t.Fatalf("room for %d, %d added: an All that was asked ahead changed", room, n)
			}
			spoil(ahead)
			m.adds(1)
			m.holds()
		}
	}
}

// P24.3, W6: what is appended to what All answered is not seen: not in the log, nor in another All, nor behind an Add.
func TestSpareRoomIsNew(t *testing.T) {
	for _, room := range []int{1, 2, 3, 5, 64, 65, 1024} {
		for _, n := range []int{0, 1, 2, room / 2, room - 1, room, room + 1, room + room/2, 2 * room, 2*room + 1} {
			m := empty(t, room)
			m.adds(n)
			one, other := m.l.All(), m.l.All()
			was := slices.Clone(one)
			for range 3 {
				one = append(one, strange)
			}
			m.holds()
			m.adds(1)
			m.holds()
			if !slices.Equal(other, was) || slices.Contains(other[:cap(other)], strange) {
				t.Fatalf("room for %d, %d added: another All has what was appended", room, n)
			}
			if !slices.Equal(one[:len(was)], was) || one[len(was)] != strange {
				t.Fatalf("room for %d, %d added: an Add changed an All, or its spare room", room, n)
			}
		}
	}
}

// P24.3, W6: no later Add changes what an All told.
func TestAnswersStay(t *testing.T) {
	for _, room := range []int{1, 2, 3, 5, 63, 64, 65} {
		m := empty(t, room)
		var told, wanted [][]api.Event
		for range 3*room + 3 {
			told = append(told, m.l.All())
			wanted = append(wanted, slices.Clone(m.there()))
			m.adds(1)
		}
		for i := range told {
			if !slices.Equal(told[i], wanted[i]) {
				t.Fatalf("room for %d: what was told behind %d events changed", room, i)
			}
		}
	}
}

// P24.3: logs share nothing: what is added to one is not seen in another one, of the same size or not.
func TestLogsShareNothing(t *testing.T) {
	for _, room := range []int{1, 2, 3, 64} {
		one, same, other := empty(t, room), empty(t, room), empty(t, room+1)
		for n := range 4*room + 3 {
			one.add(api.Event{At: uint64(n), Code: 1})
			same.holds()
			other.holds()
			if n%2 == 0 {
				same.add(api.Event{At: uint64(n), Code: 2})
			}
			if n%3 == 0 {
				other.add(api.Event{At: uint64(n), Code: 3})
			}
			spoil(same.l.All())
			one.holds()
			same.holds()
			other.holds()
		}
		if m := empty(t, room); len(m.l.All()) != 0 || m.l.Lost() != 0 {
			t.Fatal("a new log has what was added to another one")
		}
	}
}

// P24.1 to P24.3, W1: by dice: sizes, events, and when it is asked.
func TestDice(t *testing.T) {
	for seed := range 400 {
		d := dice(seed)
		m := empty(t, 1+d.below(1+d.below(100)))
		for range 300 {
			for range d.below(2 * m.room) {
				m.add(d.event())
			}
			m.holds()
			if d.below(4) == 0 {
				spoil(m.l.All())
				m.add(d.event())
				m.holds()
			}
		}
	}
}

// P24.1, W1: by dice: any number as a size, and more events than there is room for.
func TestDiceSizes(t *testing.T) {
	d := dice(24)
	for range 300 {
		given := d.number()
		room := given
		if given < 1 {
			room = 1
		}
		if given > 1024 {
			room = 1024
		}
		m := &model{t: t, l: events.New(given), room: room}
		m.holds()
		for range 2*room + d.below(room+1) {
			m.add(d.event())
		}
		m.holds()
	}
}

// P24.4: a log with more room has what one with less has, and what was ahead of it; one with room for all has all.
func TestMoreRoom(t *testing.T) {
	d := dice(244)
	for range 60 {
		var row []api.Event
		for range d.below(1025) {
			row = append(row, d.event())
		}
		var less []api.Event
		for _, room := range []int{1, 2, 3, 10, 63, 64, 65, 500, 1023, 1024} {
			l := events.New(room)
			for _, e := range row {
				l.Add(e)
			}
			more := l.All()
			if len(more) != min(room, len(row)) || !slices.Equal(more[len(more)-len(less):], less) {
				t.Fatalf("room for %d, %d events: %d are there, or the last of them are not what one with less room has", room, len(row), len(more))
			}
			if !slices.Equal(more, row[len(row)-len(more):]) || l.Lost() != len(row)-len(more) {
				t.Fatalf("room for %d, %d events: not the last ones, or Lost %d", room, len(row), l.Lost())
			}
			less = more
		}
		if !slices.Equal(less, row) {
			t.Fatalf("room for 1024, %d events: not all are there", len(row))
		}
	}
}
