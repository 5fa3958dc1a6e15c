package timer_test

import (
	"fmt"
	"math"
	"math/rand"
	"slices"
	"testing"

	"tontine/timer"
)

// ends are the numbers at which an id, a time, a tick might go wrong.
var ends = []int{
	math.MinInt, math.MinInt + 1, -1 << 32, -1<<31 - 1, -1 << 31, -2, -1, 0, 1, 2,
	1<<31 - 1, 1 << 31, 1<<32 - 1, 1 << 32, 1<<32 + 1, math.MaxInt - 1, math.MaxInt,
}

// model is the chapter's Timers, as plainly as may be: times by id.
type model map[int]int

func (m model) drop(id int) bool {
	_, there := m[id]
	delete(m, id)
	return there
}

func (m model) due(tick int) []int {
	var out []int
	for id, until := range m {
		if until <= tick {
			out = append(out, id)
		}
	}
	for _, id := range out {
		delete(m, id)
	}
	slices.Sort(out)
	return out
}

func (m model) next() (int, bool) {
	least, some := 0, false
	for _, until := range m {
		if !some || until < least {
			least, some = until, true
		}
	}
	return least, some
}

// call is one that changes something: s is Set, d Drop, w Due of until.
type call struct {
	op        byte
	id, until int
}

// both makes the call of x and of the model.
func (c call) both(t *testing.T, x *timer.Timers, m model) {
	t.Helper()
	switch c.op {
	case 's':
		x.Set(c.id, c.until)
		m[c.id] = c.until
	case 'd':
		dropped(t, fmt.Sprintf("Drop(%d)", c.id), x, c.id, m.drop(c.id))
	case 'w':
		due(t, fmt.Sprintf("Due(%d)", c.until), x, c.until, m.due(c.until)...)
	}
}

// filled is Timers where these were set, in this order: an id, and until when.
func filled(of ...int) *timer.Timers {
	x := timer.New()
	for at := 0; at < len(of); at += 2 {
		x.Set(of[at], of[at+1])
	}
	return x
}

func due(t *testing.T, what string, x *timer.Timers, tick int, want ...int) {
	t.Helper()
	if got := x.Due(tick); !slices.Equal(got, want) {
		t.Errorf("P8.1: %s: due at %d: %v, want %v", what, tick, got, want)
	}
}

func dropped(t *testing.T, what string, x *timer.Timers, id int, want bool) {
	t.Helper()
	if got := x.Drop(id); got != want {
		t.Errorf("P8.1: %s: Drop(%d): %v, want %v", what, id, got, want)
	}
}

// asked asks x what may be asked without changing anything, more than once.
func asked(t *testing.T, what string, x *timer.Timers, length, least int, some bool) {
	t.Helper()
	for range 2 {
		if got, ok := x.Next(); got != least || ok != some {
			t.Errorf("P8.1: %s: Next: %d, %v, want %d, %v", what, got, ok, least, some)
		}
		if got := x.Len(); got != length {
			t.Errorf("P8.1: %s: Len: %d, want %d", what, got, length)
		}
	}
}

// nobody is asked of Timers of which nobody sleeps.
func nobody(t *testing.T, what string, x *timer.Timers) {
	t.Helper()
	asked(t, what, x, 0, 0, false)
	for _, n := range ends {
		dropped(t, what, x, n, false)
		due(t, what, x, n)
	}
	asked(t, what, x, 0, 0, false)
}

// sleep holds x against the model, tick by tick of those where it changes; x
// is as good as new then.
func sleep(t *testing.T, what string, x *timer.Timers, m model) {
	t.Helper()
	for len(m) > 0 {
		least, _ := m.next()
		asked(t, what, x, len(m), least, true)
		if least > math.MinInt {
			due(t, what, x, least-1)
		}
		due(t, what, x, least, m.due(least)...)
	}
	asked(t, what, x, 0, 0, false)
	due(t, what, x, math.MaxInt)
}

// P8.1: at first nobody sleeps; of nobody there is nothing.
func TestNew(t *testing.T) {
	nobody(t, "new", timer.New())
	var x timer.Timers
	nobody(t, "not made by New", &x)
	x.Set(3, 5)
	sleep(t, "not made by New", &x, model{3: 5})
}

// P8.1: each number may be an id, and a time.
func TestEnds(t *testing.T) {
	for _, id := range ends {
		for _, until := range ends {
			what := fmt.Sprintf("Set(%d, %d)", id, until)
			for _, tick := range ends {
				x := filled(id, until)
				asked(t, what, x, 1, until, true)
				if until <= tick {
					due(t, what, x, tick, id)
					nobody(t, what+", due", x)
					continue
				}
				due(t, what, x, tick)
				asked(t, what+", not due", x, 1, until, true)
				dropped(t, what, x, id, true)
				nobody(t, what+", dropped", x)
			}
		}
	}
	x, m := timer.New(), model{}
	for _, id := range ends {
		x.Set(id, -(id + 1))
		m[id] = -(id + 1)
	}
	sleep(t, "all ends at once", x, m)
	x = timer.New()
	for at, id := range ends {
		x.Set(id, at%3)
	}
	due(t, "ends by ID", x, 2, ends...)
	nobody(t, "ends by ID", x)
}

// P8.1: who sleeps already sleeps until the new time, whether it is sooner,
// later or the same, and as one alone.
func TestSetAgain(t *testing.T) {
	for _, others := range []model{{}, {4: 5}, {3: 1, 4: 9}, {1: 1, 2: 2, 3: 3, 4: 4, 5: 5, 6: 6, 8: 8, 9: 9}} {
		for was := range 11 {
			for now := range 11 {
				x, m := timer.New(), model{7: now}
				x.Set(7, was)
				for id := range 10 {
					if until, there := others[id]; there {
						x.Set(id, until)
						m[id] = until
					}
				}
				x.Set(7, now)
				sleep(t, fmt.Sprintf("until %d, then %d, beside %v", was, now, others), x, m)
			}
		}
	}
	x := filled(1, 10, 1, 20)
	due(t, "later", x, 19)
	due(t, "later", x, 20, 1)
	x = filled(1, 20, 1, 10)
	due(t, "sooner", x, 10, 1)
	due(t, "sooner", x, 20)
	x = filled(1, 10, 1, 10)
	dropped(t, "the same", x, 1, true)
	nobody(t, "the same", x)
}

// P8.1: who is dropped doesn't sleep, whoever it is; the others sleep on; who
// doesn't sleep is false.
func TestDrop(t *testing.T) {
	times := []int{5, 1, 8, 8, 2, 9, 1, 4, 7, 3, 6}
	for gone := range times {
		for second := range times {
			x, m := timer.New(), model{}
			for id, until := range times {
				x.Set(id, until)
				m[id] = until
			}
			what := fmt.Sprintf("without %d, %d", gone, second)
			dropped(t, what, x, gone, m.drop(gone))
			dropped(t, what, x, second, m.drop(second))
			for _, id := range append([]int{gone, second, len(times), 100}, ends[:7]...) {
				least, some := m.next()
				dropped(t, what+", again", x, id, false)
				asked(t, what+", again", x, len(m), least, some)
			}
			sleep(t, what, x, m)
		}
	}
	x := filled(1, 3, 2, 3)
	due(t, "Drop after Due", x, 3, 1, 2)
	dropped(t, "Drop after Due", x, 1, false)
	x.Set(1, 2)
	due(t, "sleeps again, in time that is past", x, 3, 1)
	x.Set(1, 4)
	dropped(t, "sleeps again", x, 1, true)
	x.Set(1, 6)
	sleep(t, "sleeps again after Drop", x, model{1: 6})
}

// P8.1: those whose time isn't above tick, by ID, whatever the order in which
// they came and the order of their times; they don't sleep any more.
func TestDue(t *testing.T) {
	ids := []int{-2, 0, 3, 4, 9}
	rows := 0
	var order func(left, taken []int)
	order = func(left, taken []int) {
		for at, id := range left {
			order(slices.Delete(slices.Clone(left), at, at+1), append(slices.Clone(taken), id))
		}
		if len(left) > 0 {
			return
		}
		rows++
		for turn := range ids {
			times := model{}
			for at, id := range ids {
				times[id] = []int{7, 5, 5, 6, 8}[(at+turn)%len(ids)]
			}
			for tick := 4; tick <= 9; tick++ {
				x, m := timer.New(), model{}
				for _, id := range taken {
					x.Set(id, times[id])
					m[id] = times[id]
				}
				what := fmt.Sprintf("%v set, until %v", taken, times)
				due(t, what, x, tick, m.due(tick)...)
				due(t, what+", again", x, tick)
				sleep(t, what, x, m)
			}
		}
	}
	order(ids, nil)
	if rows != 120 {
		t.Errorf("the test's own: %d orders", rows)
	}
	due(t, "by ID, not by time", filled(1, 9, 2, 7, 3, 8), 9, 1, 2, 3)
	due(t, "by ID, not as they came", filled(3, 7, 1, 7, 2, 7), 7, 1, 2, 3)
	x := filled(1, 4, 2, 6)
	due(t, "a tick that is past", x, 5, 1)
	due(t, "a tick that is past", x, 3)
	asked(t, "a tick that is past", x, 1, 6, true)
}

// P8.1: the least time, whoever's it is, also when it is gone.
func TestNext(t *testing.T) {
	x := timer.New()
	for _, c := range []struct{ id, until, least int }{
		{1, 50, 50}, {2, 60, 50}, {3, 40, 40}, {4, 40, 40}, {5, -3, -3}, {6, 0, -3}, {5, 70, 0}, {6, 45, 40}, {3, 46, 40}, {4, 47, 45},
	} {
		x.Set(c.id, c.until)
		if got, ok := x.Next(); !ok || got != c.least {
			t.Errorf("P8.1: Next after Set(%d, %d): %d, %v, want %d", c.id, c.until, got, ok, c.least)
		}
	}
	for at, c := range []struct{ gone, least int }{{6, 46}, {2, 46}, {3, 47}, {4, 50}, {1, 70}} {
		dropped(t, "Next", x, c.gone, true)
		asked(t, fmt.Sprintf("without %d", c.gone), x, 5-at, c.least, true)
	}
	dropped(t, "Next", x, 5, true)
	nobody(t, "the last one gone", x)
}

// P8.2: tick by tick each one wakes, at its own tick and at no other.
func TestWakes(t *testing.T) {
	const ticks = 300
	x, woken := timer.New(), map[int]int{}
	for id := range 200 {
		x.Set(id, id*37%ticks)
	}
	for tick := range ticks {
		for _, id := range x.Due(tick) {
			if _, again := woken[id]; again {
				t.Errorf("P8.2: %d wakes again at %d", id, tick)
			}
			woken[id] = tick
		}
	}
	for id := range 200 {
		if at, ok := woken[id]; !ok || at != id*37%ticks {
			t.Errorf("P8.2: %d wakes at %d (%v), want %d", id, at, ok, id*37%ticks)
		}
	}
	nobody(t, "all woken", x)
	x = filled(1, 5, 2, 9, 3, 20)
	due(t, "P8.2: ticks that weren't asked for", x, 12, 1, 2)
}

// What Due answers is the caller's: whatever is done with it, with the room
// behind it too, or with the Timers later, neither sees anything of the other.
func TestDueApart(t *testing.T) {
	x := filled(5, 1, 3, 1, 4, 1, 8, 2, 7, 2, 6, 2, 9, 3)
	first := x.Due(1)
	second := x.Due(2)
	first = first[:cap(first)]
	for at := range first {
		first[at] = -99
	}
	if want := []int{6, 7, 8}; !slices.Equal(second, want) {
		t.Errorf("P8.1: an answer changed by another one: %v", second)
	}
	asked(t, "an answer was overwritten", x, 1, 3, true)
	for id := range 20 {
		x.Set(id, 1)
	}
	third := x.Due(1)
	x.Set(1, 2)
	if want := []int{6, 7, 8}; !slices.Equal(second, want) || len(third) != 20 || third[1] != 1 {
		t.Errorf("P8.1: answers changed by later calls: %v, %v", second, third)
	}
	sleep(t, "after them", x, model{1: 2})
}

// Two of them don't touch each other.
func TestTimersApart(t *testing.T) {
	x, y := filled(1, 5, 2, 6), filled(1, 7)
	dropped(t, "one", x, 1, true)
	y.Set(2, 8)
	sleep(t, "one", x, model{2: 6})
	sleep(t, "another one", y, model{1: 7, 2: 8})
}

// P8.1: each row of a few calls, against the model.
func TestEachRow(t *testing.T) {
	var calls []call
	for id := range 3 {
		calls = append(calls, call{'s', id, 0}, call{'s', id, 1}, call{'s', id, 2}, call{'d', id, 0})
	}
	calls = append(calls, call{'w', 0, -1}, call{'w', 0, 0}, call{'w', 0, 1})
	var rows func(chosen []call, left int)
	rows = func(chosen []call, left int) {
		x, m := timer.New(), model{}
		for _, c := range chosen {
			c.both(t, x, m)
		}
		sleep(t, fmt.Sprint(chosen), x, m)
		if left == 0 || t.Failed() {
			return
		}
		for _, c := range calls {
			rows(append(slices.Clone(chosen), c), left-1)
		}
	}
	rows(nil, 4)
}

// P8.1: long rows of calls, with few sleepers and with many, of few times and
// of many.
func TestLongRows(t *testing.T) {
	for seed := range int64(60) {
		dice := rand.New(rand.NewSource(seed))
		ids, times := []int{4, 30, 300}[seed%3], []int{5, 40, 1000}[seed/3%3]
		x, m, tick := timer.New(), model{}, 0
		for range 1500 {
			c := call{"sssssssdddw"[dice.Intn(11)], dice.Intn(ids) - ids/2, tick + dice.Intn(times)}
			if c.op == 'w' {
				c.until = tick + dice.Intn(1+times/10)
				tick = c.until
			}
			c.both(t, x, m)
			least, some := m.next()
			asked(t, fmt.Sprintf("seed %d", seed), x, len(m), least, some)
			if t.Failed() {
				t.FailNow()
			}
		}
		sleep(t, fmt.Sprintf("seed %d, at last", seed), x, m)
	}
}

// P8.1: there is no limit to how many sleep.
func TestMany(t *testing.T) {
	const many = 300000
	x := timer.New()
	for n := range many {
		id := n * 7919 % many
		x.Set(id, many-id%1000)
	}
	asked(t, "many", x, many, many-999, true)
	for id := range many {
		if id%2 == 1 {
			x.Drop(id)
		} else if id%4 == 2 {
			x.Set(id, 0)
		}
	}
	asked(t, "many", x, many/2, 0, true)
	for _, c := range []struct{ tick, first int }{{0, 2}, {many, 0}} {
		got := x.Due(c.tick)
		if len(got) != many/4 {
			t.Fatalf("P8.1: due of many at %d: %d", c.tick, len(got))
		}
		for at, id := range got {
			if id != c.first+4*at {
				t.Fatalf("P8.1: due of many at %d: %d at place %d", c.tick, id, at)
			}
		}
	}
	nobody(t, "many", x)
}

func Example() {
	x := timer.New()
	x.Set(3, 10)
	x.Set(1, 10)
	x.Set(2, 4)
	x.Set(2, 20)
	fmt.Println(x.Next())
	fmt.Println(x.Due(9), x.Due(10), x.Len())
	fmt.Println(x.Drop(2), x.Drop(2))
	// Output:
	// 10 true
	// [] [1 3] 1
	// true false
}
