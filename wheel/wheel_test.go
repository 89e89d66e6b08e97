package wheel_test

import (
	"slices"
	"testing"

	"crossbuck/api"
	"crossbuck/fault"
	"crossbuck/wheel"
)

// longest is how many ticks a timer has at most.
const longest = 1<<24 - 1

// pools are the pools that are asked for, and how many timers they bring.
func pools() [][2]int {
	return [][2]int{{api.MinInt, 0}, {-64, 0}, {-1, 0}, {0, 0}, {1, 1}, {2, 2}, {3, 3}, {32, 32}, {63, 63}, {64, 64}, {65, 64}, {1000, 64}, {1 << 32, 64}, {api.MaxInt, 64}}
}

// around are ticks of each place where a timer goes from one level to the next, and of the ends.
func around() []int {
	return []int{1, 2, 3, 31, 32, 33, 62, 63, 64, 65, 66, 127, 128, 129, 255, 256, 257, 4031, 4032, 4033, 4094, 4095, 4096, 4097, 4098, 4159, 4160, 4161, 8191, 8192, 8193,
		1<<18 - 4097, 1<<18 - 4096, 1<<18 - 65, 1<<18 - 64, 1<<18 - 1, 1 << 18, 1<<18 + 1, 1<<18 + 63, 1<<18 + 64, 1<<18 + 4096, 1<<18 + 4160, 1<<19 - 1, 1 << 19}
}

// far are ticks up to the most that a timer may have.
func far() []int {
	return []int{1<<20 + 1, 1 << 22, 1<<23 - 1, 1 << 23, 1<<23 + 1, 1<<24 - 1<<18 - 1, 1<<24 - 1<<18, 1<<24 - 4096, 1<<24 - 65, 1<<24 - 64, 1<<24 - 63, longest - 1, longest}
}

// refused are ticks that no timer may have.
func refused() []int {
	return []int{api.MinInt, api.MinInt + 1, -longest - 2, -longest - 1, -longest, -64, -2, -1, 0, longest + 1, longest + 2, longest + 65, 1 << 25, 1<<32 + 1, 1<<32 + 5, 1 << 62, api.MaxInt - 1, api.MaxInt}
}

// nobody are numbers that no timer of any pool has.
func nobody() []int {
	return []int{api.MinInt, api.MinInt + 1, -1 << 32, -64, -2, -1, 64, 65, 128, 256, 1 << 32, 1<<32 + 1, api.MaxInt - 1, api.MaxInt}
}

// dice are numbers that look like no rule, the same at each run.
type dice uint64

func (d *dice) below(n int) int {
	*d = *d*6364136223846793005 + 1442695040888963407
	return int(uint64(*d)>>33) % n
}

// armed is a timer as the document tells of it: its number, its tag, and how many Ticks are left.
type armed struct{ timer, tag, left int }

// model does what the document says, by a list of what is armed in the order of arming, beside the wheel that is held against it.
type model struct {
	t    *testing.T
	w    *wheel.Wheel
	pool int
	list []armed
}

func start(t *testing.T, pool int) *model {
	return &model{t: t, w: wheel.New(pool), pool: min(max(pool, 0), 64)}
}

// find is where in the list a timer is.
func (m *model) find(timer int) int {
	return slices.IndexFunc(m.list, func(a armed) bool { return a.timer == timer })
}

// arm arms a timer of both, and holds the wheel's answer against what it should be.
func (m *model) arm(ticks, tag int) int {
	m.t.Helper()
	got, err := m.w.Arm(ticks, tag)
	switch {
	case ticks < 1 || ticks > longest:
		m.refuses(got, err, api.ErrRange)
		return -1
	case len(m.list) == m.pool:
		m.refuses(got, err, api.ErrFull)
		return -1
	}
	want := 0
	for m.find(want) >= 0 {
		want++
	}
	if got != want || err != nil {
		m.t.Fatalf("Arm(%d, %d): %d, %v, not %d", ticks, tag, got, err, want)
	}
	m.list = append(m.list, armed{want, tag, ticks})
	return want
}

func (m *model) refuses(got int, err error, code api.Errno) {
	m.t.Helper()
	if got != 0 || err == nil || fault.Code(err) != code || len(fault.Path(err)) == 0 {
		m.t.Fatalf("Arm: %d, %v, not 0 and the error %d", got, err, code)
	}
}

func (m *model) cancel(timer int) {
	m.t.Helper()
	i := m.find(timer)
	if got := m.w.Cancel(timer); got != (i >= 0) {
		m.t.Fatalf("Cancel(%d): %t", timer, got)
	}
	if i >= 0 {
		m.list = slices.Delete(m.list, i, i+1)
	}
}

func (m *model) tick() {
	m.t.Helper()
	var want []int
	var still []armed
	for _, a := range m.list {
		a.left--
		if a.left == 0 {
			want = append(want, a.tag)
		} else {
			still = append(still, a)
		}
	}
	m.list = still
	if got := m.w.Tick(); !slices.Equal(got, want) {
		m.t.Fatalf("Tick: %v, not %v", got, want)
	}
}

// holds holds all that can be asked of the wheel against what it should be; asked twice, for being asked changes nothing.
func (m *model) holds() {
	m.t.Helper()
	for range 2 {
		if got, want := m.w.Free(), m.pool-len(m.list); got != want {
			m.t.Fatalf("Free: %d, not %d", got, want)
		}
		left := [64]int{}
		for _, a := range m.list {
			left[a.timer] = a.left
		}
		for timer, want := range left {
			if got := m.w.Left(timer); got != want {
				m.t.Fatalf("Left(%d): %d, not %d", timer, got, want)
			}
		}
		for _, timer := range nobody() {
			if got := m.w.Left(timer); got != 0 {
				m.t.Fatalf("Left(%d): %d", timer, got)
			}
		}
	}
}

// skip lets a wheel go on by so many Ticks at which nothing fires.
func skip(t *testing.T, w *wheel.Wheel, ticks int) {
	t.Helper()
	for n := range ticks {
		if got := w.Tick(); len(got) != 0 {
			t.Fatalf("Tick %d of %d: %v", n+1, ticks, got)
		}
	}
}

// fires lets a wheel go on till the Tick of that number, at which these tags are to come, and nothing ahead of it.
func fires(t *testing.T, w *wheel.Wheel, ticks int, tags ...int) {
	t.Helper()
	skip(t, w, ticks-1)
	if got := w.Tick(); !slices.Equal(got, tags) {
		t.Fatalf("Tick %d: %v, not %v", ticks, got, tags)
	}
}

// arms arms a timer that is to get that number.
func arms(t *testing.T, w *wheel.Wheel, ticks, tag, number int) {
	t.Helper()
	if got, err := w.Arm(ticks, tag); got != number || err != nil {
		t.Fatalf("Arm(%d, %d): %d, %v, not %d", ticks, tag, got, err, number)
	}
}

// The document's example: Arm(2, 7): 0; Tick: none; Tick: 7.
func TestExample(t *testing.T) {
	w := wheel.New(1)
	arms(t, w, 2, 7, 0)
	fires(t, w, 2, 7)
	skip(t, w, 300)
}

// P5.1: how many timers a pool has: none is armed, and none fires, is left or can be cancelled.
func TestPools(t *testing.T) {
	for _, p := range pools() {
		m := start(t, p[0])
		if got := m.w.Free(); got != p[1] {
			t.Errorf("New(%d): Free: %d, not %d", p[0], got, p[1])
		}
		m.holds()
		for timer := range 64 {
			m.cancel(timer)
		}
		for _, timer := range nobody() {
			m.cancel(timer)
		}
		skip(t, m.w, 5000)
		m.holds()
	}
}

// P5.1, P5.2: as many timers can be armed as the pool has, whose numbers are from 0 on, and no more; Free goes down by each.
func TestArmAll(t *testing.T) {
	for _, p := range pools() {
		m := start(t, p[0])
		for n := range p[1] {
			if got := m.arm(3, n); got != n {
				t.Fatalf("New(%d): Arm: %d, not %d", p[0], got, n)
			}
			m.holds()
		}
		for range 3 {
			if got := m.arm(3, 99); got != -1 {
				t.Fatalf("New(%d): one more: %d", p[0], got)
			}
			m.holds()
		}
		for range 4 {
			m.tick()
			m.holds()
		}
		for n := range p[1] {
			m.arm(7, -n)
		}
		m.holds()
	}
}

// P5.2: ticks from 1 to 2^24 - 1 are taken, all others refused, and nothing has changed then.
func TestRange(t *testing.T) {
	m := start(t, 64)
	for _, ticks := range slices.Concat(around(), far()) {
		timer := m.arm(ticks, 1)
		if got := m.w.Left(timer); got != ticks {
			t.Fatalf("Arm(%d): Left: %d", ticks, got)
		}
		m.holds()
		for _, bad := range refused() {
			m.arm(bad, 2)
		}
		m.holds()
		m.cancel(timer)
		m.holds()
	}
	skip(t, m.w, 5000)
}

// P5.2: with all timers armed ErrRange is told of ticks that may not be, ErrFull of all others; in a pool of none too.
func TestRangeAheadOfFull(t *testing.T) {
	for _, pool := range []int{-1, 0, 1, 2, 64, 65} {
		m := start(t, pool)
		for n := range m.pool {
			m.arm(10, n)
		}
		for range 12 {
			for _, bad := range refused() {
				_, err := m.w.Arm(bad, 5)
				if !fault.Is(err, api.ErrRange) {
					t.Fatalf("a pool of %d, Arm(%d): %v", pool, bad, err)
				}
			}
			if len(m.list) == m.pool {
				for _, ticks := range []int{1, 2, 64, longest} {
					_, err := m.w.Arm(ticks, 5)
					if !fault.Is(err, api.ErrFull) {
						t.Fatalf("a pool of %d, Arm(%d): %v", pool, ticks, err)
					}
				}
			}
			m.holds()
			m.tick()
		}
	}
}

// P5.2: the least number that is not armed, behind a Cancel of one, of several, of all.
func TestLeastBehindCancel(t *testing.T) {
	for _, cancelled := range [][]int{{0}, {1}, {63}, {31}, {5, 3}, {3, 5}, {63, 0}, {62, 63}, {9, 8, 7, 40, 20}} {
		m := start(t, 64)
		for n := range 64 {
			m.arm(100, n)
		}
		for _, timer := range cancelled {
			m.cancel(timer)
			m.holds()
		}
		least := slices.Sorted(slices.Values(cancelled))
		for i, want := range least {
			if got := m.arm(50, 1000+i); got != want {
				t.Fatalf("behind Cancel of %v: %d, not %d", cancelled, got, want)
			}
			m.holds()
		}
		m.arm(50, 0)
		for range 101 {
			m.tick()
		}
		m.holds()
	}
}

// P5.2: the least number that is not armed, also if only some are armed.
func TestLeastAmongFew(t *testing.T) {
	w := wheel.New(64)
	arms(t, w, 10, 100, 0)
	arms(t, w, 10, 101, 1)
	arms(t, w, 10, 102, 2)
	w.Cancel(1)
	arms(t, w, 10, 103, 1)
	arms(t, w, 10, 104, 3)
	w.Cancel(0)
	w.Cancel(2)
	arms(t, w, 10, 105, 0)
	arms(t, w, 10, 106, 2)
	arms(t, w, 10, 107, 4)
	fires(t, w, 10, 103, 104, 105, 106, 107)
}

// P5.2, P5.4: the least number that is not armed, behind timers that fired.
func TestLeastBehindFire(t *testing.T) {
	m := start(t, 64)
	for n := range 64 {
		m.arm(1+(n*37)%64, n)
	}
	for range 64 {
		m.tick()
		m.holds()
		m.arm(200, 500)
		m.holds()
	}
	for range 200 {
		m.tick()
	}
	m.holds()
}

// P5.2: each tag comes as it was, also the ends of numbers and one that other timers have.
func TestTags(t *testing.T) {
	w := wheel.New(64)
	tags := []int{api.MinInt, api.MaxInt, 0, -1, 1, 7, 7, 7, 1 << 32, -1 << 32, 63, 64, 0}
	for n, tag := range tags {
		arms(t, w, 70, tag, n)
	}
	fires(t, w, 70, tags...)
	skip(t, w, 200)
}

// P5.3: of a timer that is armed Cancel tells true, once, and it does not fire; Left goes down by each Tick till it is cancelled.
func TestCancel(t *testing.T) {
	for _, ticks := range []int{1, 2, 63, 64, 65, 128, 4095, 4096, 4097, 1 << 18, 1<<18 + 1, longest} {
		for _, behind := range []int{0, 1, 2, 62, 63, 64, 65, 127, 4094, 4095, 4096, 4097} {
			if behind >= ticks {
				continue
			}
			m := start(t, 3)
			m.arm(ticks, 7)
			for range behind {
				m.tick()
			}
			m.holds()
			m.cancel(0)
			m.holds()
			m.cancel(0)
			m.holds()
			skip(t, m.w, min(ticks, 5000))
			m.holds()
		}
	}
}

// P5.3: Cancel of a timer is true also at the last moment, false behind the Tick at which it fired.
func TestCancelAroundFire(t *testing.T) {
	for _, ticks := range around() {
		w := wheel.New(2)
		arms(t, w, ticks, 7, 0)
		arms(t, w, ticks, 8, 1)
		skip(t, w, ticks-1)
		if w.Left(0) != 1 || w.Left(1) != 1 || !w.Cancel(0) || w.Cancel(0) {
			t.Fatalf("Arm(%d): not armed ahead of its last Tick", ticks)
		}
		if got := w.Tick(); !slices.Equal(got, []int{8}) {
			t.Fatalf("Arm(%d): %v", ticks, got)
		}
		if w.Left(1) != 0 || w.Cancel(1) || w.Cancel(0) || w.Free() != 2 {
			t.Fatalf("Arm(%d): armed behind its last Tick", ticks)
		}
		skip(t, w, 200)
	}
}

// P5.3: numbers that no timer has: Cancel tells false, Left 0, and nothing has changed; in small pools also numbers that a greater one has.
func TestNobody(t *testing.T) {
	for _, p := range pools() {
		m := start(t, p[0])
		for n := range p[1] {
			m.arm(5+n, n)
		}
		for range 100 {
			for _, timer := range nobody() {
				m.cancel(timer)
			}
			for timer := p[1]; timer < 70; timer++ {
				m.cancel(timer)
			}
			m.holds()
			m.tick()
		}
	}
}

// P5.3, P5.6: those beside a timer that is cancelled fire as they should, whichever of those that fire at one Tick, or lie close, it is.
func TestBesideCancelled(t *testing.T) {
	for _, ticks := range []int{1, 5, 64, 100, 4096, 5000, 1<<18 + 70} {
		for gone := range 6 {
			for _, spread := range []int{0, 1, 64} {
				w := wheel.New(6)
				var want []int
				for n := range 6 {
					arms(t, w, ticks+n*spread, 10+n, n)
				}
				if !w.Cancel(gone) {
					t.Fatalf("Cancel(%d)", gone)
				}
				got := map[int][]int{}
				for n := range ticks + 6*spread + 70 {
					if tags := w.Tick(); len(tags) > 0 {
						got[n+1] = tags
					}
				}
				for n := range 6 {
					if n == gone {
						continue
					}
					want = append(want, 10+n)
					if spread > 0 && !slices.Equal(got[ticks+n*spread], []int{10 + n}) {
						t.Fatalf("Arm(%d), Cancel(%d): %v", ticks, gone, got)
					}
				}
				if spread == 0 && (len(got) != 1 || !slices.Equal(got[ticks], want)) || spread > 0 && len(got) != 5 {
					t.Fatalf("Arm(%d), Cancel(%d): %v", ticks, gone, got)
				}
			}
		}
	}
}

// P5.2, P5.4, P5.6: a timer that is armed behind any number of Ticks fires just when it should, around each place where one goes from level to level.
func TestAlone(t *testing.T) {
	behind := []int{0, 1, 2, 62, 63, 64, 65, 127, 128, 4030, 4031, 4032, 4033, 4094, 4095, 4096, 4097, 8191, 8192, 1<<18 - 65, 1<<18 - 64, 1<<18 - 63, 1<<18 - 1, 1 << 18, 1<<18 + 1}
	for _, ticks := range around() {
		for _, ahead := range behind {
			w := wheel.New(1)
			skip(t, w, ahead)
			arms(t, w, ticks, 7, 0)
			fires(t, w, ticks, 7)
			if w.Left(0) != 0 || w.Free() != 1 {
				t.Fatalf("behind %d Ticks, Arm(%d): still armed", ahead, ticks)
			}
			skip(t, w, 130)
		}
	}
}

// P5.2, P5.6: timers of any ticks up to some thousand, armed behind any number of Ticks up to some more than a slot of level 1.
func TestEachStart(t *testing.T) {
	for ahead := range 140 {
		for base := 1; base < 4400; base += 64 {
			w := wheel.New(64)
			skip(t, w, ahead)
			for n := range 64 {
				arms(t, w, base+n, n, n)
			}
			skip(t, w, base-1)
			for n := range 64 {
				if got := w.Tick(); len(got) != 1 || got[0] != n {
					t.Fatalf("behind %d Ticks, Arm(%d): %v", ahead, base+n, got)
				}
			}
			if w.Free() != 64 {
				t.Fatalf("behind %d Ticks: Free: %d", ahead, w.Free())
			}
		}
	}
}

// P5.3, P5.6: Left tells at each Tick how many are left, on all levels, and ahead of and behind the places between them.
func TestLeftAllTheWay(t *testing.T) {
	for _, ahead := range []int{0, 1, 63, 64, 100, 4095, 4096} {
		w := wheel.New(64)
		skip(t, w, ahead)
		all := around()
		for n, ticks := range all {
			arms(t, w, ticks, ticks, n)
		}
		for were := 1; were <= all[len(all)-1]; were++ {
			got := w.Tick()
			if i, is := slices.BinarySearch(all, were); is && !slices.Equal(got, all[i:i+1]) || !is && len(got) > 0 {
				t.Fatalf("behind %d Ticks: Tick %d: %v", ahead, were, got)
			}
			for n, ticks := range all {
				if left := w.Left(n); left != max(ticks-were, 0) {
					t.Fatalf("behind %d Ticks: Arm(%d), behind %d: Left: %d", ahead, ticks, were, left)
				}
			}
		}
	}
}

// P5.4: the order is that of arming, though the timers were armed at unlike times, each of them for one Tick.
func TestOrderOfUnlikeTimes(t *testing.T) {
	for _, at := range []int{10, 63, 64, 65, 70, 127, 128, 130, 4095, 4096, 4097, 4100, 4161, 8192, 1 << 18, 1<<18 + 1, 1<<18 + 4096, 1<<18 + 4165} {
		for _, first := range []int{0, 1, 63, 64, 4095} {
			w := wheel.New(64)
			skip(t, w, first)
			want, now := []int{}, first
			for _, left := range []int{1 << 18, 1<<18 - 1, 8000, 4097, 4096, 4095, 200, 129, 128, 127, 66, 65, 64, 63, 33, 7, 2, 1} {
				if first+at-now < left {
					continue
				}
				skip(t, w, first+at-now-left)
				now = first + at - left
				tag := 1000 - len(want)
				arms(t, w, left, tag, len(want))
				want = append(want, tag)
			}
			fires(t, w, first+at-now, want...)
			skip(t, w, 200)
		}
	}
}

// P5.4: the order is that of arming, not that of the numbers: behind a Cancel a later one has a lesser number.
func TestOrderNotOfNumbers(t *testing.T) {
	for _, ticks := range []int{1, 2, 64, 65, 4096, 4097, 1 << 18, 1<<18 + 1} {
		w := wheel.New(5)
		for n := range 5 {
			arms(t, w, ticks+5, n, n)
		}
		for _, timer := range []int{3, 1, 0} {
			w.Cancel(timer)
		}
		skip(t, w, 5)
		arms(t, w, ticks, 50, 0)
		arms(t, w, ticks, 40, 1)
		arms(t, w, ticks, 60, 3)
		fires(t, w, ticks, 2, 4, 50, 40, 60)
		skip(t, w, 100)
	}
}

// P5.4, P5.6: a timer that is armed again, once it was cancelled, or fired, is a new one: with its own tag, at its own Tick, last in order, and only once.
func TestArmedAgain(t *testing.T) {
	for _, ticks := range []int{1, 2, 3, 63, 64, 65, 128, 4096, 4097, 1 << 18} {
		w := wheel.New(2)
		arms(t, w, ticks, 1, 0)
		arms(t, w, ticks, 2, 1)
		w.Cancel(0)
		arms(t, w, ticks, 3, 0)
		fires(t, w, ticks, 2, 3)
		arms(t, w, ticks, 4, 0)
		arms(t, w, ticks+1, 5, 1)
		fires(t, w, ticks, 4)
		arms(t, w, 1, 6, 0)
		fires(t, w, 1, 5, 6)
		arms(t, w, ticks, 7, 0)
		w.Cancel(0)
		arms(t, w, ticks+70, 8, 0)
		fires(t, w, ticks+70, 8)
		skip(t, w, 200)
	}
}

// P5.6: one timer that is armed again at each Tick, or as soon as it fired, many times.
func TestAgainAndAgain(t *testing.T) {
	for _, ticks := range []int{1, 2, 3, 61, 63, 64, 65, 67, 1000, 4096, 4097} {
		w := wheel.New(1)
		for n := range 300000 / ticks {
			arms(t, w, ticks, n, 0)
			fires(t, w, ticks, n)
		}
		for n := range 5000 {
			arms(t, w, ticks, n, 0)
			if ticks > 1 {
				skip(t, w, 1)
			}
			if !w.Cancel(0) {
				t.Fatalf("Arm(%d): not armed", ticks)
			}
		}
	}
}

// P5.5: what Tick answers is new memory, its spare room too: to write there changes nothing, and later Ticks do not change it.
func TestNewMemory(t *testing.T) {
	w := wheel.New(8)
	for n := range 8 {
		arms(t, w, 2+n/4, n, n)
	}
	skip(t, w, 1)
	first := w.Tick()
	kept := slices.Clone(first)
	for n := range 4 {
		arms(t, w, 1+n%2, 10+n, n)
	}
	second := w.Tick()
	if !slices.Equal(first, kept) || !slices.Equal(second, []int{4, 5, 6, 7, 10, 12}) {
		t.Fatalf("%v, %v", first, second)
	}
	arms(t, w, 1, 20, 0)
	for _, list := range [][]int{first, second} {
		whole := list[:cap(list)]
		for i := range whole {
			whole[i] = -7
		}
	}
	if got := w.Tick(); !slices.Equal(got, []int{11, 13, 20}) {
		t.Fatalf("behind a change of what was answered: %v", got)
	}
	if w.Free() != 8 {
		t.Fatalf("Free: %d", w.Free())
	}
}

// P5.5: no two answers of many share memory, whatever is armed between.
func TestAnswersApart(t *testing.T) {
	w := wheel.New(64)
	var all [][]int
	for n := range 300 {
		for i := range n % 5 {
			if _, err := w.Arm(1+(n*i)%3, n); err != nil {
				t.Fatal(err)
			}
		}
		got := w.Tick()
		whole := got[:cap(got)]
		for i := range whole {
			whole[i] = n
		}
		all = append(all, whole)
	}
	for n, whole := range all {
		for _, x := range whole {
			if x != n {
				t.Fatalf("the answer %d has changed: %v", n, whole)
			}
		}
	}
}

// Two wheels do not touch each other: one goes on, arms and cancels while the other stands.
func TestWheelsApart(t *testing.T) {
	a, b := start(t, 4), start(t, 4)
	a.arm(5, 1)
	b.holds()
	b.arm(3, 2)
	b.arm(70, 3)
	a.holds()
	for range 6 {
		a.tick()
		a.holds()
		b.holds()
	}
	a.cancel(0)
	a.cancel(1)
	b.holds()
	b.cancel(1)
	a.arm(2, 9)
	for range 80 {
		b.tick()
		a.holds()
		b.holds()
	}
	a.tick()
	a.tick()
	a.holds()
	start(t, 4).holds()
}

// step does one thing, chosen by dice, to a wheel and to its model.
func step(m *model, d *dice, spans []int) {
	m.t.Helper()
	switch d.below(8) {
	case 0, 1, 2:
		m.arm(1+d.below(spans[d.below(len(spans))]), d.below(1000)-500)
	case 3:
		m.cancel(d.below(70) - 3)
	case 4:
		m.arm(refused()[d.below(len(refused()))], 1)
	default:
		m.tick()
	}
}

// P5.1 to P5.6: long runs by dice, in pools of all kinds, held against the model at each step.
func TestByDice(t *testing.T) {
	for _, pool := range []int{0, 1, 2, 5, 40, 64, 100} {
		for seed := range 6 {
			m, d := start(t, pool), dice(seed+100*pool)
			for range 20000 {
				step(m, &d, []int{2, 5, 63, 64, 65, 200, 5000})
				m.holds()
			}
		}
	}
}

// P5.1 to P5.6: several wheels by turns, each held against its own model.
func TestByDiceByTurns(t *testing.T) {
	d := dice(11)
	all := []*model{start(t, 64), start(t, 64), start(t, 3), start(t, 1)}
	for range 60000 {
		step(all[d.below(len(all))], &d, []int{3, 70, 300, 5000})
		all[d.below(len(all))].holds()
	}
}

// P5.4, P5.6: a run over more Ticks than the longest timer has, with timers of all lengths, some cancelled; each fires once, just when it should, in the order of arming.
func TestLongRun(t *testing.T) {
	spans := []int{1, 2, 64, 65, 4096, 4097, 1 << 18, 1<<18 + 1, 1 << 22, longest - 1, longest}
	for seed, first := range []int{0, 1, 4095, 1<<18 - 1, 77777} {
		w, d := wheel.New(64), dice(seed)
		skip(t, w, first)
		due := map[int][]int{} // the tags of each Tick, in the order of arming
		began := [64]int{}     // the tag of each timer, which is also the number of its arming
		ends := [64]int{}
		arming := 0
		for now := 0; now < 1<<24+1<<19; now++ {
			if now%8191 == 0 || now < 40 || d.below(1<<14) == 0 {
				ticks := spans[d.below(len(spans))]
				if d.below(2) == 0 {
					ticks = 1 + d.below(ticks)
				}
				if timer, err := w.Arm(ticks, arming); err == nil {
					due[now+ticks] = append(due[now+ticks], arming)
					began[timer], ends[timer] = arming, now+ticks
				}
				arming++
			}
			if d.below(1<<18) == 0 {
				if timer := d.below(64); w.Cancel(timer) {
					tags := due[ends[timer]]
					due[ends[timer]] = slices.DeleteFunc(tags, func(tag int) bool { return tag == began[timer] })
				}
			}
			if got := w.Tick(); !slices.Equal(got, due[now+1]) {
				t.Fatalf("behind %d Ticks: Tick %d: %v, not %v", first, now+1, got, due[now+1])
			}
			delete(due, now+1)
		}
	}
}

// P5.2, P5.6: the longest timers, armed at Ticks of all kinds, also as the wheel goes round, and those that join them later for the same Tick.
func TestLongest(t *testing.T) {
	w := wheel.New(64)
	want := map[int][]int{}
	now := 0
	arm := func(ticks, tag int) {
		timer, err := w.Arm(ticks, tag)
		if err != nil || w.Left(timer) != ticks {
			t.Fatalf("behind %d Ticks: Arm(%d): %d, %v; Left: %d", now, ticks, timer, err, w.Left(timer))
		}
		want[now+ticks] = append(want[now+ticks], tag)
	}
	begin := []int{0, 1, 2, 63, 64, 65, 4095, 4096, 4097, 1<<18 - 1, 1 << 18, 1<<18 + 1, 1<<23 + 5, 1<<24 - 1<<18, 1<<24 - 64, longest - 1}
	for ; now < 1<<25; now++ {
		if slices.Contains(begin, now) {
			arm(longest, now)
			arm(longest-1, now+1)
		}
		for _, first := range begin {
			if left := first + longest - now; left == 1<<18 || left == 4096 || left == 64 || left == 1 {
				arm(left, -now)
			}
		}
		if got := w.Tick(); !slices.Equal(got, want[now+1]) {
			t.Fatalf("Tick %d: %v, not %v", now+1, got, want[now+1])
		}
	}
	if w.Free() != 64 {
		t.Fatalf("Free: %d", w.Free())
	}
}

// P5.2, P5.3: each of the longest timers counts down to its Tick, with Left right at each of them.
func TestFarLeft(t *testing.T) {
	w := wheel.New(64)
	skip(t, w, 100)
	all := far()
	for n, ticks := range all {
		arms(t, w, ticks, n, n)
	}
	next := 0
	for were := 1; were <= longest; were++ {
		got := w.Tick()
		if were == all[next] {
			if !slices.Equal(got, []int{next}) || w.Left(next) != 0 {
				t.Fatalf("Tick %d: %v", were, got)
			}
			next++
		} else if len(got) != 0 {
			t.Fatalf("Tick %d: %v", were, got)
		}
		if n := were % len(all); n >= next && w.Left(n) != all[n]-were {
			t.Fatalf("Tick %d: Left(%d): %d, not %d", were, n, w.Left(n), all[n]-were)
		}
	}
	if next != len(all) || w.Free() != 64 {
		t.Fatalf("%d fired; Free: %d", next, w.Free())
	}
}
