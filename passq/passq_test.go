package passq_test

import (
	"errors"
	"fmt"
	"math"
	"math/rand"
	"slices"
	"testing"

	"tontine/api"
	"tontine/passq"
)

const top = 1 << 40

// row is of pairs: a pass, and its id.
func row(of ...int) []api.Entry {
	var out []api.Entry
	for at := 0; at < len(of); at += 2 {
		out = append(out, api.Entry{Pass: of[at], ID: of[at+1]})
	}
	return out
}

// filled is an Index into which these were put, in this order.
func filled(t *testing.T, room int, of ...int) *passq.Index {
	t.Helper()
	x := passq.New(room)
	for _, e := range row(of...) {
		failed(t, fmt.Sprintf("P5.1: Put(%d, %d)", e.Pass, e.ID), x.Put(e.Pass, e.ID), 0)
	}
	return x
}

// failed holds an error against the number that is asked for, 0 of none.
func failed(t *testing.T, what string, err error, want api.Errno) {
	t.Helper()
	if want == 0 && err == nil {
		return
	}
	var got api.Errno
	if want == 0 || !errors.As(err, &got) || got != want || !errors.Is(err, want) {
		t.Errorf("%s: error %v, want %d", what, err, int(want))
	}
}

// holds asks x all that can be asked; it should be what the pairs say.
func holds(t *testing.T, what string, x *passq.Index, of ...int) {
	t.Helper()
	want := row(of...)
	if got := x.All(); !slices.Equal(got, want) {
		t.Errorf("P5.1: %s: All: %v, want %v", what, got, want)
	}
	if got := x.Len(); got != len(want) {
		t.Errorf("P5.1: %s: Len: %d, want %d", what, got, len(want))
	}
	least, there := api.Entry{}, len(want) > 0
	if there {
		least = want[0]
	}
	if got, ok := x.Min(); got != least || ok != there {
		t.Errorf("P5.2: %s: Min: %v, %v, want %v, %v", what, got, ok, least, there)
	}
	passes := map[int]int{}
	for _, e := range want {
		passes[e.ID] = e.Pass
	}
	ids := []int{math.MinInt, -2, -1, 0, 1, 2, 3, 4, 5, 63, 64, 65, top, 1<<32 + 1, math.MaxInt - 1, math.MaxInt}
	for _, e := range want {
		ids = append(ids, e.ID-1, e.ID, e.ID+1)
	}
	for _, id := range ids {
		pass, there := passes[id]
		if got, ok := x.Pass(id); got != pass || ok != there {
			t.Errorf("P5.1: %s: Pass(%d): %d, %v, want %d, %v", what, id, got, ok, pass, there)
		}
	}
}

var wrongPasses = []int{math.MinInt, math.MinInt + 1, -1 << 40, -1 << 32, -2, -1, top + 1, top + 2, 1 << 41, math.MaxInt - 1, math.MaxInt}

var wrongIDs = []int{math.MinInt, math.MinInt + 1, -1 << 40, -1 << 32, -2, -1}

// P5.1: entries by Pass, those of one Pass by ID, in whatever order they come.
func TestOrder(t *testing.T) {
	holds(t, "nothing yet", passq.New(4))
	want := []int{0, 7, 1, 3, 1, 4, 5, 0, 5, 2, top, 1}
	turns := 0
	var order func(left, taken []api.Entry)
	order = func(left, taken []api.Entry) {
		if len(left) == 0 {
			x := passq.New(6)
			for _, e := range taken {
				failed(t, "P5.1: Put", x.Put(e.Pass, e.ID), 0)
			}
			holds(t, fmt.Sprint(taken), x, want...)
			turns++
		}
		for at, e := range left {
			order(slices.Delete(slices.Clone(left), at, at+1), append(slices.Clone(taken), e))
		}
	}
	order(row(want...), nil)
	if turns != 720 {
		t.Errorf("the test's own: %d orders", turns)
	}
}

// P5.1: passes from 0 to 1 << 40, ids from 0 on, at their ends.
func TestPutEnds(t *testing.T) {
	for _, pass := range []int{0, 1, 2, api.MaxPass, api.MaxPass + 1, 1<<31 - 1, 1 << 31, 1 << 32, top - 1, top} {
		for _, id := range []int{0, 1, 2, 63, 64, 65, 1<<31 - 1, 1 << 32, top + 1, math.MaxInt - 1, math.MaxInt} {
			holds(t, "one", filled(t, 1, pass, id), pass, id)
		}
	}
}

// P5.1: Put's ErrForm, ErrClash, ErrFull, of two or three that apply the first
// of them; what is refused changes nothing.
func TestPutWrong(t *testing.T) {
	for _, room := range []int{3, 4} { // there is none left, there is some
		x := filled(t, room, 5, 2, 5, 1, 3, 9)
		refused := func(pass, id int, want api.Errno) {
			what := fmt.Sprintf("Put(%d, %d), room %d", pass, id, room)
			failed(t, "P5.1: "+what, x.Put(pass, id), want)
			holds(t, what, x, 3, 9, 5, 1, 5, 2)
		}
		for _, pass := range wrongPasses {
			for _, id := range []int{0, 1, 2, 9, 77, math.MaxInt} {
				refused(pass, id, api.ErrForm)
			}
		}
		for _, id := range wrongIDs {
			for _, pass := range []int{-1, 0, 3, 5, top, top + 1} {
				refused(pass, id, api.ErrForm)
			}
		}
		for _, id := range []int{1, 2, 9} {
			for _, pass := range []int{0, 3, 4, 5, top} {
				refused(pass, id, api.ErrClash)
			}
		}
		for _, id := range []int{0, 3, 8, 10, math.MaxInt} {
			for _, pass := range []int{0, 3, 5, top} {
				if room == 3 {
					refused(pass, id, api.ErrFull)
				}
			}
		}
	}
}

// P5.1: room for as many as are asked for, held from 0 to 64; who goes leaves
// room for another one.
func TestRoom(t *testing.T) {
	for _, c := range []struct{ room, want int }{
		{math.MinInt, 0}, {math.MinInt + 1, 0}, {-1 << 32, 0}, {-64, 0}, {-1, 0}, {0, 0}, {1, 1}, {2, 2}, {3, 3}, {31, 31}, {60, 60},
		{63, 63}, {64, 64}, {65, 64}, {128, 64}, {1000, 64}, {1 << 32, 64}, {1<<32 + 1, 64}, {math.MaxInt - 1, 64}, {math.MaxInt, 64},
	} {
		what := fmt.Sprintf("New(%d)", c.room)
		x := passq.New(c.room)
		var want []int
		for id := range c.want {
			failed(t, "P5.1: "+what, x.Put(7, id), 0)
			want = append(want, 7, id)
		}
		for range 2 {
			failed(t, "P5.1: "+what, x.Put(7, 100), api.ErrFull)
			holds(t, what, x, want...)
		}
		if c.want == 0 {
			continue
		}
		failed(t, "P5.1: "+what, x.Rekey(0, 6), 0)
		failed(t, "P5.1: "+what+", after Rekey", x.Put(7, 100), api.ErrFull)
		x.Shift(1)
		failed(t, "P5.1: "+what+", after Shift", x.Put(7, 100), api.ErrFull)
		failed(t, "P5.1: "+what, x.Drop(0), 0)
		failed(t, "P5.1: "+what+", after Drop", x.Put(7, 100), 0)
		failed(t, "P5.1: "+what+", once more", x.Put(7, 101), api.ErrFull)
		if x.Len() != c.want {
			t.Errorf("P5.1: %s: Len %d, want %d", what, x.Len(), c.want)
		}
	}
}

// P5.1: who is dropped is gone, wherever it was, and may come again; of nobody
// it is ErrNone.
func TestDrop(t *testing.T) {
	all := row(0, 7, 1, 3, 1, 4, 5, 0)
	for at, e := range all {
		x := filled(t, 4, 5, 0, 1, 4, 0, 7, 1, 3)
		var rest []int
		for _, o := range slices.Delete(slices.Clone(all), at, at+1) {
			rest = append(rest, o.Pass, o.ID)
		}
		failed(t, "P5.1: Drop", x.Drop(e.ID), 0)
		holds(t, fmt.Sprintf("Drop(%d)", e.ID), x, rest...)
		for _, id := range append([]int{e.ID, 1, 2, 5, 6, 8, top, math.MaxInt}, wrongIDs...) {
			what := fmt.Sprintf("Drop(%d), then of %d", e.ID, id)
			failed(t, "P5.1: "+what, x.Drop(id), api.ErrNone)
			holds(t, what, x, rest...)
		}
		failed(t, "P5.1: Put again", x.Put(9, e.ID), 0)
		holds(t, "there again", x, append(rest, 9, e.ID)...)
	}
	x := passq.New(2)
	failed(t, "P5.1: Drop of none", x.Drop(0), api.ErrNone)
	failed(t, "P5.1: Put", x.Put(3, 0), 0)
	failed(t, "P5.1: Drop of the last one", x.Drop(0), 0)
	holds(t, "all gone", x)
	failed(t, "P5.1: Drop of it again", x.Drop(0), api.ErrNone)
	failed(t, "P5.1: Rekey of it", x.Rekey(0, 3), api.ErrNone)
}

// P5.1: who is rekeyed goes where its new pass belongs, also where nothing is
// left of the room.
func TestRekey(t *testing.T) {
	for _, room := range []int{4, 5} {
		for _, c := range []struct {
			id, pass int
			want     []int
		}{
			{5, 2, []int{2, 5, 4, 3, 4, 7, 9, 1}},
			{5, 0, []int{0, 5, 4, 3, 4, 7, 9, 1}},
			{5, 3, []int{3, 5, 4, 3, 4, 7, 9, 1}},
			{5, 4, []int{4, 3, 4, 5, 4, 7, 9, 1}},
			{5, 5, []int{4, 3, 4, 7, 5, 5, 9, 1}},
			{5, 9, []int{4, 3, 4, 7, 9, 1, 9, 5}},
			{5, top, []int{4, 3, 4, 7, 9, 1, top, 5}},
			{1, 0, []int{0, 1, 2, 5, 4, 3, 4, 7}},
			{1, 2, []int{2, 1, 2, 5, 4, 3, 4, 7}},
			{1, 4, []int{2, 5, 4, 1, 4, 3, 4, 7}},
			{1, 9, []int{2, 5, 4, 3, 4, 7, 9, 1}},
			{3, 2, []int{2, 3, 2, 5, 4, 7, 9, 1}},
			{3, 4, []int{2, 5, 4, 3, 4, 7, 9, 1}},
			{3, 9, []int{2, 5, 4, 7, 9, 1, 9, 3}},
			{7, 2, []int{2, 5, 2, 7, 4, 3, 9, 1}},
			{7, 9, []int{2, 5, 4, 3, 9, 1, 9, 7}},
		} {
			x := filled(t, room, 4, 7, 9, 1, 2, 5, 4, 3)
			what := fmt.Sprintf("Rekey(%d, %d), room %d", c.id, c.pass, room)
			failed(t, "P5.1: "+what, x.Rekey(c.id, c.pass), 0)
			holds(t, what, x, c.want...)
			failed(t, "P5.1: "+what+", again", x.Rekey(c.id, c.pass), 0)
			holds(t, what+", again", x, c.want...)
		}
	}
}

// P5.1: Rekey's ErrForm, then ErrNone; what is refused changes nothing.
func TestRekeyWrong(t *testing.T) {
	for _, x := range []*passq.Index{filled(t, 2, 5, 2, 5, 1), filled(t, 3, 5, 2, 5, 1)} {
		refused := func(id, pass int, want api.Errno) {
			what := fmt.Sprintf("Rekey(%d, %d)", id, pass)
			failed(t, "P5.1: "+what, x.Rekey(id, pass), want)
			holds(t, what, x, 5, 1, 5, 2)
		}
		for _, pass := range wrongPasses {
			for _, id := range []int{1, 2, 0, 3, 5, math.MaxInt} {
				refused(id, pass, api.ErrForm)
			}
		}
		for _, id := range wrongIDs {
			for _, pass := range []int{-1, 0, 5, top, top + 1} {
				refused(id, pass, api.ErrForm)
			}
		}
		for _, id := range []int{0, 3, 5, top, math.MaxInt} {
			for _, pass := range []int{0, 1, 5, top} {
				refused(id, pass, api.ErrNone)
			}
		}
	}
	failed(t, "P5.1: Rekey of none", passq.New(1).Rekey(0, 0), api.ErrNone)
}

// P5.1: each pass is n less, n held from 0 to 1 << 40; those that come down to
// 0 are by ID, among those that were there too.
func TestShift(t *testing.T) {
	was := []int{0, 6, 2, 9, 3, 4, 3, 8, 5, 1, top, 0}
	for _, c := range []struct {
		n    int
		want []int
	}{
		{math.MinInt, was}, {math.MinInt + 1, was}, {-top, was}, {-1, was}, {0, was},
		{1, []int{0, 6, 1, 9, 2, 4, 2, 8, 4, 1, top - 1, 0}},
		{2, []int{0, 6, 0, 9, 1, 4, 1, 8, 3, 1, top - 2, 0}},
		{3, []int{0, 4, 0, 6, 0, 8, 0, 9, 2, 1, top - 3, 0}},
		{4, []int{0, 4, 0, 6, 0, 8, 0, 9, 1, 1, top - 4, 0}},
		{5, []int{0, 1, 0, 4, 0, 6, 0, 8, 0, 9, top - 5, 0}},
		{1 << 32, []int{0, 1, 0, 4, 0, 6, 0, 8, 0, 9, top - 1<<32, 0}},
		{top - 1, []int{0, 1, 0, 4, 0, 6, 0, 8, 0, 9, 1, 0}},
		{top, []int{0, 0, 0, 1, 0, 4, 0, 6, 0, 8, 0, 9}},
		{top + 1, []int{0, 0, 0, 1, 0, 4, 0, 6, 0, 8, 0, 9}},
		{math.MaxInt - 1, []int{0, 0, 0, 1, 0, 4, 0, 6, 0, 8, 0, 9}},
		{math.MaxInt, []int{0, 0, 0, 1, 0, 4, 0, 6, 0, 8, 0, 9}},
	} {
		x := filled(t, 6, was...)
		x.Shift(c.n)
		holds(t, fmt.Sprintf("Shift(%d)", c.n), x, c.want...)
		x.Shift(top)
		holds(t, fmt.Sprintf("Shift(%d), then all", c.n), x, 0, 0, 0, 1, 0, 4, 0, 6, 0, 8, 0, 9)
	}
	none := passq.New(3)
	none.Shift(7)
	holds(t, "Shift of none", none)
	failed(t, "P5.1: Put", none.Put(2, 1), 0)
	holds(t, "a Shift of none, then one", none, 2, 1)
}

// P5.1: what was rekeyed or put in after a Shift stands among the others by the
// passes that they have by then.
func TestAfterShift(t *testing.T) {
	x := filled(t, 4, 10, 5, 20, 3)
	x.Shift(12)
	failed(t, "P5.1: Put", x.Put(8, 1), 0)
	failed(t, "P5.1: Put", x.Put(8, 4), 0)
	holds(t, "Put after Shift", x, 0, 5, 8, 1, 8, 3, 8, 4)
	failed(t, "P5.1: Rekey", x.Rekey(5, top), 0)
	failed(t, "P5.1: Rekey", x.Rekey(4, 7), 0)
	holds(t, "Rekey after Shift", x, 7, 4, 8, 1, 8, 3, top, 5)
	x.Shift(7)
	holds(t, "Shift after Rekey", x, 0, 4, 1, 1, 1, 3, top-7, 5)
}

// What All answers is the caller's: whatever is done with it, with the room
// behind it too, or with the Index later, neither sees anything of the other.
func TestAllApart(t *testing.T) {
	x := filled(t, 8, 3, 1, 5, 2, 7, 3)
	first, other := x.All(), x.All()
	for at := range first {
		first[at] = api.Entry{Pass: 99, ID: 99}
	}
	behind := first[:cap(first)]
	for at := range behind {
		behind[at] = api.Entry{Pass: 98, ID: 98}
	}
	if want := row(3, 1, 5, 2, 7, 3); !slices.Equal(other, want) {
		t.Errorf("P5.1: an answer changed by another one: %v", other)
	}
	holds(t, "an answer was overwritten", x, 3, 1, 5, 2, 7, 3)
	failed(t, "P5.1: Put", x.Put(4, 4), 0)
	failed(t, "P5.1: Rekey", x.Rekey(1, 9), 0)
	failed(t, "P5.1: Drop", x.Drop(2), 0)
	x.Shift(1)
	if want := row(3, 1, 5, 2, 7, 3); !slices.Equal(other, want) {
		t.Errorf("P5.1: an answer changed by later calls: %v", other)
	}
	holds(t, "after them", x, 3, 4, 6, 3, 8, 1)
	if all := passq.New(3).All(); len(all) != 0 {
		t.Errorf("P5.1: All of none: %v", all)
	}
}

// Two of them don't touch each other.
func TestIndexesApart(t *testing.T) {
	x, y := passq.New(2), passq.New(1)
	failed(t, "P5.1: Put", x.Put(1, 1), 0)
	failed(t, "P5.1: Put", y.Put(2, 1), 0)
	failed(t, "P5.1: Put", x.Put(3, 2), 0)
	failed(t, "P5.1: Put", y.Put(3, 2), api.ErrFull)
	failed(t, "P5.1: Drop", y.Drop(1), 0)
	y.Shift(1)
	holds(t, "one", x, 1, 1, 3, 2)
	holds(t, "another one", y)
}

// P5.2: who is least is told whatever came ahead, and asking takes nothing.
func TestMin(t *testing.T) {
	x := passq.New(64)
	for n := range 64 {
		id := n * 37 % 64
		failed(t, "P5.2: Put", x.Put(id/3, id), 0)
	}
	for id := range 64 {
		for range 3 {
			if e, ok := x.Min(); !ok || e != (api.Entry{Pass: id / 3, ID: id}) {
				t.Fatalf("P5.2: Min: %v, %v, want %d", e, ok, id)
			}
		}
		failed(t, "P5.2: Drop", x.Drop(id), 0)
	}
	if e, ok := x.Min(); ok || e != (api.Entry{}) {
		t.Errorf("P5.2: Min of none: %v, %v", e, ok)
	}
}

// model is the chapter's Index, as plainly as may be: passes by id.
type model struct {
	room   int
	passes map[int]int
}

func (m *model) put(pass, id int) api.Errno {
	if pass < 0 || pass > top || id < 0 {
		return api.ErrForm
	}
	if _, there := m.passes[id]; there {
		return api.ErrClash
	}
	if len(m.passes) == m.room {
		return api.ErrFull
	}
	m.passes[id] = pass
	return 0
}

func (m *model) drop(id int) api.Errno {
	if _, there := m.passes[id]; !there {
		return api.ErrNone
	}
	delete(m.passes, id)
	return 0
}

func (m *model) rekey(id, pass int) api.Errno {
	if pass < 0 || pass > top || id < 0 {
		return api.ErrForm
	}
	if _, there := m.passes[id]; !there {
		return api.ErrNone
	}
	m.passes[id] = pass
	return 0
}

func (m *model) shift(n int) {
	for id := range m.passes {
		m.passes[id] = max(0, m.passes[id]-max(0, min(n, top)))
	}
}

func (m *model) pairs() []int {
	var all [][2]int
	for id, pass := range m.passes {
		all = append(all, [2]int{pass, id})
	}
	slices.SortFunc(all, func(a, b [2]int) int { return slices.Compare(a[:], b[:]) })
	var out []int
	for _, e := range all {
		out = append(out, e[0], e[1])
	}
	return out
}

// call is one that changes something: p is Put, d Drop, r Rekey, s Shift.
type call struct {
	op       byte
	id, pass int
}

// both makes the call of x and of the model.
func (c call) both(t *testing.T, x *passq.Index, m *model) {
	t.Helper()
	what := fmt.Sprintf("P5.1: %c, id %d, pass %d", c.op, c.id, c.pass)
	switch c.op {
	case 'p':
		failed(t, what, x.Put(c.pass, c.id), m.put(c.pass, c.id))
	case 'd':
		failed(t, what, x.Drop(c.id), m.drop(c.id))
	case 'r':
		failed(t, what, x.Rekey(c.id, c.pass), m.rekey(c.id, c.pass))
	case 's':
		x.Shift(c.pass)
		m.shift(c.pass)
	}
}

// P5.1, P5.2: each row of a few calls, call by call against the model.
func TestEachRow(t *testing.T) {
	var calls []call
	for id := range 3 {
		calls = append(calls, call{'p', id, 0}, call{'p', id, 1}, call{'p', id, 2}, call{'d', id, 0}, call{'r', id, 0}, call{'r', id, 1}, call{'r', id, 2})
	}
	calls = append(calls, call{'s', 0, 1}, call{'s', 0, 2}, call{'p', 0, -1}, call{'p', -1, 0}, call{'r', 0, top + 1}, call{'r', -1, 0})
	var chosen []call
	var rows func(left int)
	rows = func(left int) {
		x, m := passq.New(2), &model{2, map[int]int{}}
		for _, c := range chosen {
			c.both(t, x, m)
		}
		holds(t, fmt.Sprint(chosen), x, m.pairs()...)
		if left == 0 || t.Failed() {
			return
		}
		for _, c := range calls {
			chosen = append(chosen, c)
			rows(left - 1)
			chosen = chosen[:len(chosen)-1]
		}
	}
	rows(3)
}

// P5.1, P5.2: long rows of calls, as full as may be.
func TestLongRows(t *testing.T) {
	for seed := range int64(40) {
		dice := rand.New(rand.NewSource(seed))
		room := []int{64, 64, 60, 5}[seed%4]
		x, m := passq.New(room), &model{room, map[int]int{}}
		for range 600 {
			c := call{"pppprrrrdds"[dice.Intn(11)], dice.Intn(room + room/4), dice.Intn(20)}
			if c.op == 's' {
				c.pass = []int{0, 1, 3, top}[dice.Intn(4)]
			}
			c.both(t, x, m)
			holds(t, fmt.Sprintf("seed %d", seed), x, m.pairs()...)
			if t.Failed() {
				t.FailNow()
			}
		}
	}
}

func Example() {
	x := passq.New(2)
	x.Put(3, 1)
	x.Put(1, 2)
	fmt.Println(x.Min())
	x.Rekey(2, 4)
	fmt.Println(x.All())
	x.Shift(3)
	fmt.Println(x.All(), errors.Is(x.Put(0, 3), api.ErrFull))
	// Output:
	// {1 2} true
	// [{3 1} {4 2}]
	// [{0 1} {1 2}] true
}
