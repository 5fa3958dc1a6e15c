package object_test

import (
	"errors"
	"fmt"
	"math"
	"math/rand"
	"slices"
	"testing"

	"tontine/api"
	"tontine/object"
)

const (
	objects = 4
	most    = 255
)

// ends are the numbers at which an id might go wrong.
var ends = []int{
	math.MinInt, math.MinInt + 1, -1 << 32, -1<<31 - 1, -1 << 31, -2, -1, 0, 1, 2,
	1<<31 - 1, 1 << 31, 1<<32 - 1, 1 << 32, 1<<32 + 1, math.MaxInt - 1, math.MaxInt,
}

// noObjects are those that there aren't.
var noObjects = []int{
	math.MinInt, math.MinInt + 1, math.MinInt + 3, -1 << 32, -1<<32 + 1, -5, -4, -3, -2, -1, 4, 5, 6, 7, 8, 16, 64,
	255, 256, 257, 1 << 16, 1<<31 - 1, 1 << 31, 1 << 32, 1<<32 + 1, 1<<32 + 3, 1 << 40, math.MaxInt - 1, math.MaxInt,
}

// model is the chapter's Objects, as plainly as may be.
type model struct {
	counts [objects]int
	rows   [objects][]int
}

func (m *model) waits(id int) bool {
	for _, row := range m.rows {
		if slices.Contains(row, id) {
			return true
		}
	}
	return false
}

func (m *model) wait(id, obj int) (bool, api.Errno) {
	switch {
	case obj < 0 || obj >= objects:
		return false, api.ErrForm
	case m.waits(id):
		return false, api.ErrClash
	case m.counts[obj] > 0:
		m.counts[obj]--
		return true, 0
	}
	m.rows[obj] = append(m.rows[obj], id)
	return false, 0
}

func (m *model) signal(obj int) (int, bool, api.Errno) {
	switch {
	case obj < 0 || obj >= objects:
		return 0, false, api.ErrForm
	case len(m.rows[obj]) > 0:
		first := m.rows[obj][0]
		m.rows[obj] = slices.Clone(m.rows[obj][1:])
		return first, true, 0
	case m.counts[obj] < most:
		m.counts[obj]++
	}
	return 0, false, 0
}

func (m *model) drop(id int) bool {
	was := m.waits(id)
	for obj, row := range m.rows {
		m.rows[obj] = slices.DeleteFunc(slices.Clone(row), func(in int) bool { return in == id })
	}
	return was
}

// call is one that changes something: w is Wait, s Signal, d Drop.
type call struct {
	op      byte
	id, obj int
}

func (c call) String() string {
	switch c.op {
	case 'w':
		return fmt.Sprintf("Wait(%d, %d)", c.id, c.obj)
	case 's':
		return fmt.Sprintf("Signal(%d)", c.obj)
	}
	return fmt.Sprintf("Drop(%d)", c.id)
}

// both makes the call of x and of the model.
func (c call) both(t *testing.T, x *object.Objects, m *model) {
	t.Helper()
	switch c.op {
	case 'w':
		on, code := m.wait(c.id, c.obj)
		waited(t, "", x, c.id, c.obj, on, code)
	case 's':
		id, woke, code := m.signal(c.obj)
		signalled(t, "", x, c.obj, id, woke, code)
	case 'd':
		dropped(t, "", x, c.id, m.drop(c.id))
	}
}

// failed holds an error against the number that is asked for, 0 of none.
func failed(t *testing.T, what string, err error, want api.Errno) {
	t.Helper()
	if want == 0 && err == nil {
		return
	}
	var got api.Errno
	if want == 0 || !errors.As(err, &got) || got != want || !errors.Is(err, want) {
		t.Errorf("%s: error %v, want %d", what, err, int(want))
	}
}

func waited(t *testing.T, what string, x *object.Objects, id, obj int, want bool, code api.Errno) {
	t.Helper()
	what = fmt.Sprintf("P9.1: %s: Wait(%d, %d)", what, id, obj)
	on, err := x.Wait(id, obj)
	failed(t, what, err, code)
	if on != want {
		t.Errorf("%s: %v, want %v", what, on, want)
	}
}

func signalled(t *testing.T, what string, x *object.Objects, obj, id int, want bool, code api.Errno) {
	t.Helper()
	what = fmt.Sprintf("P9.1: %s: Signal(%d)", what, obj)
	got, woke, err := x.Signal(obj)
	failed(t, what, err, code)
	if got != id || woke != want {
		t.Errorf("%s: %d, %v, want %d, %v", what, got, woke, id, want)
	}
}

func dropped(t *testing.T, what string, x *object.Objects, id int, want bool) {
	t.Helper()
	if got := x.Drop(id); got != want {
		t.Errorf("P9.1: %s: Drop(%d): %v, want %v", what, id, got, want)
	}
}

// stands holds all that may be asked without changing anything, more than
// once.
func stands(t *testing.T, what string, x *object.Objects, m model) {
	t.Helper()
	for range 2 {
		for obj := range objects {
			if got := x.Count(obj); got != m.counts[obj] {
				t.Errorf("P9.1: %s: Count(%d): %d, want %d", what, obj, got, m.counts[obj])
			}
			if got := x.Row(obj); !slices.Equal(got, m.rows[obj]) {
				t.Errorf("P9.1: %s: Row(%d): %v, want %v", what, obj, got, m.rows[obj])
			}
		}
	}
}

// served holds x against the model until nobody waits and nothing is counted.
func served(t *testing.T, what string, x *object.Objects, m *model) {
	t.Helper()
	stands(t, what, x, *m)
	for obj := range objects {
		for len(m.rows[obj]) > 0 {
			first := m.rows[obj][0]
			m.signal(obj)
			signalled(t, what+", served", x, obj, first, true, 0)
			dropped(t, what+", served", x, first, false)
		}
	}
	for obj := range objects {
		for m.counts[obj] > 0 {
			m.counts[obj]--
			waited(t, what+", taken", x, 1, obj, true, 0)
		}
	}
	stands(t, what+", at last", x, model{})
}

// rowed is Objects where these wait, in this order, and the model of it.
func rowed(t *testing.T, obj int, ids ...int) (*object.Objects, *model) {
	t.Helper()
	x, m := object.New(), &model{}
	for _, id := range ids {
		call{'w', id, obj}.both(t, x, m)
	}
	return x, m
}

// P9.1: at first each count is 0 and each row has nobody.
func TestNew(t *testing.T) {
	if api.MaxObjects != objects || api.MaxCount != most {
		t.Fatalf("the test's own: %d objects, counts to %d", api.MaxObjects, api.MaxCount)
	}
	x := object.New()
	stands(t, "new", x, model{})
	for _, id := range ends {
		dropped(t, "new", x, id, false)
	}
	stands(t, "new, dropped", x, model{})
	var y object.Objects
	stands(t, "not made by New", &y, model{})
	dropped(t, "not made by New", &y, 0, false)
	waited(t, "not made by New", &y, 3, 2, false, 0)
	served(t, "not made by New", &y, &model{rows: [objects][]int{2: {3}}})
}

// P9.1: of no such object: ErrForm, ahead of ErrClash; 0, none; nothing is
// changed.
func TestNoSuchObject(t *testing.T) {
	for _, obj := range noObjects {
		x, m := rowed(t, 1, 7, 8)
		call{'s', 0, 2}.both(t, x, m)
		what := "no such object"
		for _, id := range []int{7, 8, 9, 0, -1, obj} {
			waited(t, what, x, id, obj, false, api.ErrForm)
		}
		signalled(t, what, x, obj, 0, false, api.ErrForm)
		if got := x.Count(obj); got != 0 {
			t.Errorf("P9.1: Count(%d): %d, want 0", obj, got)
		}
		if got := x.Row(obj); len(got) != 0 {
			t.Errorf("P9.1: Row(%d): %v, want none", obj, got)
		}
		stands(t, what, x, *m)
		dropped(t, what, x, 9, false)
		served(t, what, x, m)
	}
}

// P9.1: each number may be an id.
func TestEnds(t *testing.T) {
	for obj := range objects {
		x, m := rowed(t, obj, ends...)
		stands(t, "ends", x, *m)
		for _, id := range ends {
			for other := range objects {
				call{'w', id, other}.both(t, x, m)
			}
		}
		for at, id := range ends {
			if at%2 == 0 {
				call{'d', id, 0}.both(t, x, m)
			}
		}
		served(t, "ends", x, m)
		for _, id := range ends {
			signalled(t, "ends, one by one", x, obj, 0, false, 0)
			waited(t, "ends, one by one", x, id, obj, true, 0)
			waited(t, "ends, one by one", x, id, obj, false, 0)
			waited(t, "ends, one by one", x, id, obj, false, api.ErrClash)
			signalled(t, "ends, one by one", x, obj, id, true, 0)
		}
		stands(t, "ends, one by one", x, model{})
	}
}

// P9.1: a signal nobody waits for is counted, MaxCount at most, of its own
// object; as many go on, the next one waits.
func TestCount(t *testing.T) {
	for _, signals := range []int{0, 1, 2, 100, 253, 254, 255, 256, 257, 300, 510, 511, 512, 600} {
		for obj := range objects {
			what := fmt.Sprintf("%d signals of %d", signals, obj)
			x := object.New()
			for n := range signals {
				signalled(t, what, x, obj, 0, false, 0)
				if got, want := x.Count(obj), min(n+1, most); got != want {
					t.Errorf("P9.1: Count(%d) after %d signals: %d, want %d", obj, n+1, got, want)
				}
			}
			m := model{}
			m.counts[obj] = min(signals, most)
			stands(t, what, x, m)
			for n := range min(signals, most) {
				waited(t, what, x, n%3, obj, true, 0)
				m.counts[obj]--
				stands(t, what, x, m)
			}
			waited(t, what, x, 0, obj, false, 0)
			m.rows[obj] = []int{0}
			stands(t, what, x, m)
			signalled(t, what, x, obj, 0, true, 0)
			signalled(t, what, x, obj, 0, false, 0)
			m.counts[obj], m.rows[obj] = 1, nil
			stands(t, what, x, m)
		}
	}
}

// P9.1: at MaxCount one more signal stays, one taken makes room for one.
func TestCountAtMost(t *testing.T) {
	x, m := object.New(), model{}
	for range most + 1 {
		signalled(t, "at most", x, 3, 0, false, 0)
	}
	for range 3 {
		waited(t, "at most, taken", x, 5, 3, true, 0)
		m.counts[3] = most - 1
		stands(t, "at most, taken", x, m)
		signalled(t, "at most, again", x, 3, 0, false, 0)
		signalled(t, "at most, again", x, 3, 0, false, 0)
		m.counts[3] = most
		stands(t, "at most, again", x, m)
	}
}

// P9.1: who waits may wait for nothing else, whatever is counted there; who
// goes on doesn't wait.
func TestClash(t *testing.T) {
	for obj := range objects {
		for other := range objects {
			for signals := range 3 {
				x, m := rowed(t, obj, 1, 2, 3)
				for range signals {
					if other != obj {
						call{'s', 0, other}.both(t, x, m)
					}
				}
				for id := 1; id <= 3; id++ {
					waited(t, "who waits", x, id, other, false, api.ErrClash)
				}
				stands(t, "who waits", x, *m)
				call{'w', 4, other}.both(t, x, m)
				call{'w', 4, other}.both(t, x, m)
				call{'s', 0, obj}.both(t, x, m)
				call{'w', 1, other}.both(t, x, m)
				call{'d', 2, 0}.both(t, x, m)
				call{'w', 2, other}.both(t, x, m)
				served(t, fmt.Sprintf("%d, then %d", obj, other), x, m)
			}
		}
	}
}

// P9.2: first come, first served, whatever the ids.
func TestFirstCome(t *testing.T) {
	rows := 0
	var order func(left, taken []int)
	order = func(left, taken []int) {
		for at, id := range left {
			order(slices.Delete(slices.Clone(left), at, at+1), append(slices.Clone(taken), id))
		}
		if len(left) > 0 {
			return
		}
		rows++
		for obj := range objects {
			x, m := rowed(t, obj, taken...)
			stands(t, "P9.2", x, *m)
			for _, id := range taken {
				signalled(t, fmt.Sprintf("P9.2: of %v", taken), x, obj, id, true, 0)
			}
			stands(t, "P9.2", x, model{})
		}
	}
	order([]int{-3, 0, 1, 2, 90}, nil)
	if rows != 120 {
		t.Errorf("the test's own: %d orders", rows)
	}
	x, m := rowed(t, 0, 1, 2, 3)
	for n := range 9 {
		first := 1 + n%3
		signalled(t, "P9.2: again behind the others", x, 0, first, true, 0)
		waited(t, "P9.2: again behind the others", x, first, 0, false, 0)
	}
	served(t, "P9.2: again behind the others", x, m)
}

// P9.1: a row hangs on its own object alone.
func TestRowsApart(t *testing.T) {
	x, m := object.New(), &model{}
	for id := range 12 {
		call{'w', id, id % objects}.both(t, x, m)
	}
	stands(t, "rows", x, *m)
	for _, obj := range []int{2, 0, 3, 2, 2, 2, 1} {
		call{'s', 0, obj}.both(t, x, m)
		stands(t, "rows", x, *m)
	}
	for _, id := range []int{8, 5, 11, 7} {
		call{'d', id, 0}.both(t, x, m)
		stands(t, "rows", x, *m)
	}
	served(t, "rows", x, m)
}

// P9.1: who is dropped doesn't wait, wherever it stood; the others keep their
// order; nothing is counted; who doesn't wait is false.
func TestDrop(t *testing.T) {
	ids := []int{6, 2, 9, 0, 4}
	for long := range len(ids) + 1 {
		row := ids[:long]
		for _, gone := range ids {
			for _, second := range ids {
				x, m := rowed(t, 2, row...)
				what := fmt.Sprintf("%v without %d, %d", row, gone, second)
				call{'d', gone, 0}.both(t, x, m)
				stands(t, what, x, *m)
				call{'d', second, 0}.both(t, x, m)
				stands(t, what, x, *m)
				for _, id := range append([]int{gone, second, 77}, ends[:7]...) {
					dropped(t, what+", again", x, id, false)
				}
				stands(t, what+", again", x, *m)
				call{'w', 50, 2}.both(t, x, m)
				call{'w', gone, 2}.both(t, x, m)
				call{'w', 51, 2}.both(t, x, m)
				served(t, what+", others behind", x, m)
			}
		}
	}
	x, m := rowed(t, 1, 1, 2)
	for _, c := range []call{{'s', 0, 1}, {'d', 1, 0}, {'s', 0, 1}, {'d', 2, 0}, {'s', 0, 1}, {'w', 1, 1}, {'d', 1, 0}} {
		c.both(t, x, m)
		stands(t, c.String(), x, *m)
	}
	if m.counts[1] != 0 || len(m.rows[1]) != 0 {
		t.Errorf("the test's own: %v", m)
	}
}

// What Row answers is the caller's: whatever is done with it, with the room
// behind it too, or with the Objects later, neither sees anything of the other.
func TestRowAnswerApart(t *testing.T) {
	x, m := rowed(t, 1, 5, 3, 4, 8, 6)
	first, second := x.Row(1), x.Row(1)
	first = first[:cap(first)]
	for at := range first {
		first[at] = -99
	}
	_ = append(second[:2], -98)
	stands(t, "an answer was overwritten", x, *m)
	third := x.Row(1)
	for _, c := range []call{{'s', 0, 1}, {'d', 8, 0}, {'w', 5, 1}, {'w', 9, 1}, {'w', 10, 1}, {'w', 11, 1}} {
		c.both(t, x, m)
	}
	if want := []int{5, 3, 4, 8, 6}; !slices.Equal(third, want) {
		t.Errorf("P9.1: an answer changed by later calls: %v", third)
	}
	stands(t, "after them", x, *m)
	for at := range third {
		third[at] = -97
	}
	served(t, "after them", x, m)
}

// Two of them don't touch each other.
func TestObjectsApart(t *testing.T) {
	x, m := rowed(t, 0, 1, 2)
	y, n := rowed(t, 0, 3)
	waited(t, "another one", y, 1, 0, false, 0)
	n.wait(1, 0)
	signalled(t, "another one", y, 1, 0, false, 0)
	n.signal(1)
	dropped(t, "one", x, 3, false)
	dropped(t, "one", x, 1, true)
	m.drop(1)
	served(t, "another one", y, n)
	served(t, "one", x, m)
}

// P9.1: each row of a few calls, against the model.
func TestEachRow(t *testing.T) {
	var calls []call
	for id := range 3 {
		calls = append(calls, call{'w', id, 0}, call{'w', id, 3}, call{'d', id, 0})
	}
	calls = append(calls, call{'s', 0, 0}, call{'s', 0, 3}, call{'w', 1, 4}, call{'s', 0, -1})
	var rows func(chosen []call, left int)
	rows = func(chosen []call, left int) {
		x, m := object.New(), &model{}
		for _, c := range chosen {
			c.both(t, x, m)
		}
		served(t, fmt.Sprint(chosen), x, m)
		if left == 0 || t.Failed() {
			return
		}
		for _, c := range calls {
			rows(append(slices.Clone(chosen), c), left-1)
		}
	}
	rows(nil, 4)
}

// P9.1: long rows of calls, with few ids and with many; more waits than
// signals, as many, fewer.
func TestLongRows(t *testing.T) {
	for seed := range int64(60) {
		dice := rand.New(rand.NewSource(seed))
		ids, ops := []int{2, 8, 60}[seed%3], []string{"wwwwsd", "wwwssd", "wssssd", "ssssssssw"}[seed/3%4]
		x, m := object.New(), &model{}
		for at := range 1500 {
			c := call{ops[dice.Intn(len(ops))], dice.Intn(ids) - ids/2, dice.Intn(objects+2) - 1}
			c.both(t, x, m)
			stands(t, fmt.Sprintf("seed %d, %d: %v", seed, at, c), x, *m)
			if t.Failed() {
				t.FailNow()
			}
		}
		served(t, fmt.Sprintf("seed %d", seed), x, m)
	}
}

// P9.1: there is no limit to how many wait.
func TestMany(t *testing.T) {
	const many = 300000
	x := object.New()
	for n := range many {
		if on, err := x.Wait(n*7919%many, 2); on || err != nil {
			t.Fatalf("P9.1: one of many: %v, %v", on, err)
		}
	}
	for n := many - 1; n >= 0; n-- {
		if n%2 == 1 {
			x.Drop(n * 7919 % many)
		}
	}
	row := x.Row(2)
	if len(row) != many/2 {
		t.Fatalf("P9.1: a row of many: %d", len(row))
	}
	for at, want := range row {
		if id, woke, err := x.Signal(2); id != want || id != 2*at*7919%many || !woke || err != nil {
			t.Fatalf("P9.2: many: %d, %v, %v at place %d, row %d", id, woke, err, at, want)
		}
	}
	stands(t, "many", x, model{})
}

func Example() {
	x := object.New()
	x.Wait(7, 0)
	x.Wait(3, 0)
	fmt.Println(x.Row(0))
	fmt.Println(x.Wait(3, 1))
	fmt.Println(x.Signal(0))
	fmt.Println(x.Drop(3), x.Drop(3))
	fmt.Println(x.Signal(0))
	fmt.Println(x.Count(0))
	fmt.Println(x.Wait(3, 0))
	// Output:
	// [7 3]
	// false error 20
	// 7 true <nil>
	// true false
	// 0 false <nil>
	// 1
	// true <nil>
}
