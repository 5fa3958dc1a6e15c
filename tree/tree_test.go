package tree_test

import (
	"errors"
	"fmt"
	"math"
	"math/rand"
	"slices"
	"testing"

	"tontine/api"
	"tontine/stride"
	"tontine/tree"
)

const whole = 720720

// failed holds an error against the number that is asked for, 0 of none.
func failed(t *testing.T, what string, err error, want api.Errno) {
	t.Helper()
	if want == 0 && err == nil {
		return
	}
	var got api.Errno
	if want == 0 || !errors.As(err, &got) || got != want || !errors.Is(err, want) {
		t.Errorf("%s: error %v, want %d", what, err, int(want))
	}
}

// thread and group are what a node is, as rows of tests say it.
const (
	thread = true
	group  = false
)

// one is what is let into a tree.
type one struct {
	parent, id, weight int
	thread             bool
}

// grown is a tree into which these were let, in this order, none ready.
func grown(t *testing.T, of ...one) *tree.Tree {
	t.Helper()
	x := tree.New()
	for _, o := range of {
		failed(t, fmt.Sprintf("P7.1: Add %v", o), x.Add(o.parent, o.id, o.weight, o.thread), 0)
	}
	return x
}

// awake makes these ready, one by one.
func awake(t *testing.T, x *tree.Tree, ids ...int) {
	t.Helper()
	for _, id := range ids {
		failed(t, fmt.Sprintf("P7.2: Ready(%d, true)", id), x.Ready(id, true), 0)
	}
}

// asleep makes these not ready, one by one.
func asleep(t *testing.T, x *tree.Tree, ids ...int) {
	t.Helper()
	for _, id := range ids {
		failed(t, fmt.Sprintf("P7.2: Ready(%d, false)", id), x.Ready(id, false), 0)
	}
}

// ran holds the next quanta against who should have them.
func ran(t *testing.T, what string, x *tree.Tree, want ...int) {
	t.Helper()
	var got []int
	for range want {
		id, ok := x.Run()
		if !ok {
			t.Errorf("P7.3: %s: Run: none ready", what)
		}
		got = append(got, id)
	}
	if !slices.Equal(got, want) {
		t.Errorf("P7.3: %s: %v ran, want %v", what, got, want)
	}
}

// idle holds that nobody can run.
func idle(t *testing.T, what string, x *tree.Tree) {
	t.Helper()
	if id, ok := x.Run(); ok || id != 0 {
		t.Errorf("P7.3: %s: Run: %d, %v, want none", what, id, ok)
	}
}

// passes holds the passes of all but the root, by ID.
func passes(t *testing.T, what string, x *tree.Tree, want ...int) {
	t.Helper()
	var got []int
	for _, n := range x.Nodes() {
		if n.ID == 0 && n.Pass != 0 {
			t.Errorf("%s: the root's pass: %d", what, n.Pass)
		}
		if n.ID != 0 {
			got = append(got, n.Pass)
		}
	}
	if !slices.Equal(got, want) {
		t.Errorf("%s: passes %v, want %v", what, got, want)
	}
}

// ready holds who is ready, the root too.
func ready(t *testing.T, what string, x *tree.Tree, want ...int) {
	t.Helper()
	var got []int
	for _, n := range x.Nodes() {
		if n.Ready {
			got = append(got, n.ID)
		}
	}
	if !slices.Equal(got, want) {
		t.Errorf("%s: ready %v, want %v", what, got, want)
	}
}

var wild = []int{math.MinInt, math.MinInt + 1, -1 << 40, -1 << 32, -17, -2, -1, 0, 1, 2, 3, 4, 5, 6, 7, 8, 9, 10, 16, 17, 18, 59, 60, 61, 1 << 32, 1<<32 + 1, 1 << 40, math.MaxInt - 1, math.MaxInt}

var noWeights = []int{math.MinInt, -1 << 32, -16, -1, 0, 17, 18, 255, whole, 1<<32 + 1, math.MaxInt}

// model is the chapter's tree, as plainly as may be.
type model map[int]*modelNode

type modelNode struct {
	parent, weight, pass, now int
	thread, awake             bool
}

func newModel() model {
	return model{0: {parent: -1, weight: 1}}
}

func (m model) ready(id int) bool {
	if m[id].thread {
		return m[id].awake
	}
	for in, n := range m {
		if n.parent == id && m.ready(in) {
			return true
		}
	}
	return false
}

func (m model) deep(id int) int {
	if m[id] == nil {
		return 0
	}
	return 1 + m.deep(m[id].parent)
}

func (m model) add(o one) api.Errno {
	if o.weight < 1 || o.weight > 16 || o.id < 1 {
		return api.ErrForm
	}
	if m[o.parent] == nil || m[o.parent].thread {
		return api.ErrNone
	}
	if m[o.id] != nil {
		return api.ErrClash
	}
	if !o.thread && m.deep(o.parent) == 4 {
		return api.ErrLarge
	}
	if len(m) == 60 {
		return api.ErrFull
	}
	m[o.id] = &modelNode{parent: o.parent, weight: o.weight, pass: m[o.parent].now, thread: o.thread}
	return 0
}

func (m model) remove(id int) api.Errno {
	if id == 0 || m[id] == nil {
		return api.ErrNone
	}
	for _, n := range m {
		if n.parent == id {
			return api.ErrForm
		}
	}
	delete(m, id)
	return 0
}

func (m model) wake(id int, awake bool) api.Errno {
	if m[id] == nil || !m[id].thread {
		return api.ErrNone
	}
	if !awake || m[id].awake {
		m[id].awake = awake
		return 0
	}
	become := id
	for m[become].parent >= 0 {
		around := m[become].parent
		m[become].pass = max(m[become].pass, m[around].now)
		if m.ready(around) {
			break
		}
		become = around
	}
	m[id].awake = true
	return 0
}

func (m model) weigh(id, weight int) api.Errno {
	if weight < 1 || weight > 16 {
		return api.ErrForm
	}
	if id == 0 || m[id] == nil {
		return api.ErrNone
	}
	n := m[id]
	if now := m[n.parent].now; n.pass > now {
		n.pass = now + (n.pass-now)*(whole/weight)/(whole/n.weight)
	}
	n.weight = weight
	return 0
}

func (m model) run() (int, bool) {
	if !m.ready(0) {
		return 0, false
	}
	at := 0
	var way []int
	for !m[at].thread {
		way = append(way, at)
		best := -1
		for id, n := range m {
			if n.parent == at && m.ready(id) && (best < 0 || n.pass < m[best].pass || n.pass == m[best].pass && id < best) {
				best = id
			}
		}
		m[at].now = m[best].pass
		m[best].pass += whole / m[best].weight
		at = best
	}
	for _, around := range way {
		if now := m[around].now; now > 1<<24 {
			for _, n := range m {
				if n.parent == around {
					n.pass = max(0, n.pass-now)
				}
			}
			m[around].now = 0
		}
	}
	return at, true
}

func (m model) nodes() []api.Node {
	var out []api.Node
	for id, n := range m {
		out = append(out, api.Node{ID: id, Parent: n.parent, Weight: n.weight, Pass: n.pass, Thread: n.thread, Ready: m.ready(id)})
	}
	slices.SortFunc(out, func(a, b api.Node) int { return a.ID - b.ID })
	return out
}

// holds asks x all that can be asked; it should be what the model says.
func holds(t *testing.T, what string, x *tree.Tree, m model) {
	t.Helper()
	want := m.nodes()
	if got := x.Nodes(); !slices.Equal(got, want) {
		t.Errorf("%s: Nodes:\n%v, want\n%v", what, got, want)
	}
	for _, n := range want {
		if got, ok := x.Node(n.ID); !ok || got != n {
			t.Errorf("%s: Node(%d): %v, %v, want %v", what, n.ID, got, ok, n)
		}
		if got := x.Deep(n.ID); got != m.deep(n.ID) {
			t.Errorf("%s: Deep(%d): %d, want %d", what, n.ID, got, m.deep(n.ID))
		}
	}
	for _, id := range wild {
		if m[id] != nil {
			continue
		}
		if got, ok := x.Node(id); ok || got != (api.Node{}) {
			t.Errorf("%s: Node(%d): %v, %v, want none", what, id, got, ok)
		}
		if got := x.Deep(id); got != 0 {
			t.Errorf("%s: Deep(%d): %d, want 0", what, id, got)
		}
	}
}

// call is one that changes something: a is Add, d Remove, y and n Ready, w
// Weight, r Run.
type call struct {
	op byte
	one
}

func (c call) String() string {
	return fmt.Sprintf("%c%v", c.op, c.one)
}

// both makes the call of x and of the model.
func (c call) both(t *testing.T, x *tree.Tree, m model) {
	t.Helper()
	switch c.op {
	case 'a':
		failed(t, "P7.1: "+c.String(), x.Add(c.parent, c.id, c.weight, c.thread), m.add(c.one))
	case 'd':
		failed(t, "P7.1: "+c.String(), x.Remove(c.id), m.remove(c.id))
	case 'y':
		failed(t, "P7.2: "+c.String(), x.Ready(c.id, true), m.wake(c.id, true))
	case 'n':
		failed(t, "P7.2: "+c.String(), x.Ready(c.id, false), m.wake(c.id, false))
	case 'w':
		failed(t, "P7.2: "+c.String(), x.Weight(c.id, c.weight), m.weigh(c.id, c.weight))
	case 'r':
		wantID, want := m.run()
		if id, ok := x.Run(); id != wantID || ok != want {
			t.Errorf("P7.3: Run: %d, %v, want %d, %v", id, ok, wantID, want)
		}
	}
}

// P7.1: at first there is the root alone, a group in which none is ready.
func TestNew(t *testing.T) {
	x := tree.New()
	holds(t, "P7.1: new", x, newModel())
	idle(t, "new", x)
	if n, ok := x.Node(0); !ok || n != (api.Node{Parent: -1, Weight: 1}) || x.Deep(0) != 1 {
		t.Errorf("P7.1: the root: %v, %v, deep %d", n, ok, x.Deep(0))
	}
}

// P7.1: who is let in stands by its ID, not ready, whatever else is there.
func TestAdd(t *testing.T) {
	x := grown(t, one{0, 9, 3, thread}, one{0, 4, 16, group}, one{4, 1, 1, thread}, one{4, math.MaxInt, 2, group}, one{math.MaxInt, 5, 7, thread})
	want := []api.Node{
		{Parent: -1, Weight: 1},
		{ID: 1, Parent: 4, Weight: 1, Thread: true},
		{ID: 4, Weight: 16},
		{ID: 5, Parent: math.MaxInt, Weight: 7, Thread: true},
		{ID: 9, Weight: 3, Thread: true},
		{ID: math.MaxInt, Parent: 4, Weight: 2},
	}
	if got := x.Nodes(); !slices.Equal(got, want) {
		t.Errorf("P7.1: Nodes: %v, want %v", got, want)
	}
	for id, want := range map[int]int{0: 1, 4: 2, 9: 2, 1: 3, math.MaxInt: 3, 5: 4, 2: 0, -1: 0, 8: 0} {
		if got := x.Deep(id); got != want {
			t.Errorf("P7.1: Deep(%d): %d, want %d", id, got, want)
		}
	}
	idle(t, "none is ready", x)
}

// P7.1: weights from 1 to MaxWeight.
func TestAddWeights(t *testing.T) {
	for weight := 1; weight <= 16; weight++ {
		for _, is := range []bool{thread, group} {
			if n, ok := grown(t, one{0, 3, weight, is}).Node(3); !ok || n != (api.Node{ID: 3, Weight: weight, Thread: is}) {
				t.Errorf("P7.1: weight %d: %v, %v", weight, n, ok)
			}
		}
	}
}

// P7.1: Add's errors, of several that apply the first of them; what is refused
// changes nothing.
func TestAddWrong(t *testing.T) {
	x, m := tree.New(), newModel()
	for _, o := range []one{{0, 1, 1, thread}, {0, 2, 2, group}, {2, 3, 3, group}, {3, 4, 4, group}, {4, 5, 5, thread}, {2, 6, 1, thread}} {
		call{'a', o}.both(t, x, m)
	}
	refused := func(o one, want api.Errno) {
		t.Helper()
		what := fmt.Sprintf("P7.1: Add %v, of %d", o, len(m))
		failed(t, what, x.Add(o.parent, o.id, o.weight, o.thread), want)
		if got := x.Nodes(); !slices.Equal(got, m.nodes()) {
			t.Errorf("%s: Nodes: %v, want %v", what, got, m.nodes())
		}
	}
	errs := func(full bool) {
		for _, is := range []bool{thread, group} {
			for _, parent := range []int{-1, 0, 1, 2, 4, 5, 9, math.MaxInt, math.MinInt} {
				for _, id := range []int{0, 1, 2, 4, 9} {
					for _, weight := range noWeights {
						refused(one{parent, id, weight, is}, api.ErrForm)
					}
				}
				for _, id := range []int{0, -1, -2, -1 << 32, math.MinInt} {
					refused(one{parent, id, 1, is}, api.ErrForm)
				}
			}
			for _, parent := range []int{-1, 1, 5, 6, 7, 9, 1 << 32, math.MaxInt, math.MinInt} {
				for _, id := range []int{1, 2, 5, 9, math.MaxInt} {
					refused(one{parent, id, 16, is}, api.ErrNone)
				}
			}
			for _, parent := range []int{0, 2, 3, 4} {
				for _, id := range []int{1, 2, 3, 4, 5, 6} {
					refused(one{parent, id, 16, is}, api.ErrClash)
				}
			}
		}
		refused(one{4, 9, 1, group}, api.ErrLarge)
		if full {
			for _, parent := range []int{0, 2, 3} {
				refused(one{parent, 9, 1, group}, api.ErrFull)
				refused(one{parent, 9, 1, thread}, api.ErrFull)
			}
			refused(one{4, 9, 1, thread}, api.ErrFull)
		}
	}
	errs(false)
	for id := 1000; len(m) < 60; id++ {
		call{'a', one{[]int{0, 2, 3, 4}[id%4], id, 1, thread}}.both(t, x, m)
	}
	errs(true)
	failed(t, "P7.1: Remove", x.Remove(1000), 0)
	failed(t, "P7.1: Add, where one has gone", x.Add(4, 9, 1, thread), 0)
	failed(t, "P7.1: Add, full again", x.Add(4, 10, 1, thread), api.ErrFull)
}

// P7.1: a group may be as deep as MaxDeep, a thread in it one deeper.
func TestDeep(t *testing.T) {
	x := grown(t, one{0, 1, 1, group}, one{1, 2, 1, group}, one{2, 3, 1, group}, one{3, 4, 1, thread}, one{2, 5, 1, thread})
	for id, want := range []int{1, 2, 3, 4, 5, 4, 0} {
		if got := x.Deep(id); got != want {
			t.Errorf("P7.1: Deep(%d): %d, want %d", id, got, want)
		}
	}
	failed(t, "P7.1: Add of a group too deep", x.Add(3, 6, 1, group), api.ErrLarge)
	failed(t, "P7.1: Add of a group beside the deepest", x.Add(2, 6, 1, group), 0)
	awake(t, x, 4)
	ready(t, "P7.2: the deepest", x, 0, 1, 2, 3, 4)
	ran(t, "the deepest", x, 4, 4)
}

// P7.1: as many as there is room for are in the root, or in one group, all
// ready, and each runs.
func TestRoom(t *testing.T) {
	for _, begin := range [][]one{nil, {{0, 100, 1, group}}} {
		x, in := grown(t, begin...), 0
		if len(begin) > 0 {
			in = 100
		}
		var want []int
		for id := 1; id <= 59-len(begin); id++ {
			failed(t, "P7.1: Add", x.Add(in, id, 1, thread), 0)
			want = append(want, id)
		}
		failed(t, "P7.1: Add", x.Add(in, 60, 1, thread), api.ErrFull)
		for at := range want {
			awake(t, x, want[len(want)-1-at])
		}
		ran(t, "all of them", x, slices.Concat(want, want)...)
	}
}

// P7.1: who comes begins at its group's now, a group's own now at 0.
func TestAddPass(t *testing.T) {
	x := grown(t, one{0, 1, 1, thread}, one{0, 2, 1, group}, one{2, 3, 2, thread})
	awake(t, x, 1, 3)
	ran(t, "two", x, 1, 3, 1, 3, 1)
	passes(t, "P7.3: two", x, 3*whole, 2*whole, whole)
	for _, o := range []one{{0, 4, 5, thread}, {0, 5, 5, group}, {2, 6, 5, thread}, {2, 7, 5, group}, {5, 8, 5, thread}, {7, 9, 5, group}} {
		failed(t, "P7.1: Add", x.Add(o.parent, o.id, o.weight, o.thread), 0)
	}
	passes(t, "P7.1: who comes", x, 3*whole, 2*whole, whole, 2*whole, 2*whole, whole/2, whole/2, 0, 0)
}

// P7.1: Remove's errors; what is refused changes nothing.
func TestRemoveWrong(t *testing.T) {
	x, m := tree.New(), newModel()
	for _, o := range []one{{0, 1, 1, thread}, {0, 2, 2, group}, {2, 3, 3, group}, {3, 4, 4, thread}} {
		call{'a', o}.both(t, x, m)
	}
	call{'y', one{id: 4}}.both(t, x, m)
	for _, id := range []int{math.MinInt, -1, 0, 5, 9, 1 << 32, math.MaxInt} {
		failed(t, fmt.Sprintf("P7.1: Remove(%d)", id), x.Remove(id), api.ErrNone)
	}
	for _, id := range []int{2, 3} {
		failed(t, fmt.Sprintf("P7.1: Remove(%d)", id), x.Remove(id), api.ErrForm)
	}
	holds(t, "P7.1: Remove, refused", x, m)
	for _, id := range []int{4, 3, 2, 1} {
		failed(t, fmt.Sprintf("P7.1: Remove(%d)", id), x.Remove(id), 0)
		failed(t, fmt.Sprintf("P7.1: Remove(%d) again", id), x.Remove(id), api.ErrNone)
	}
	failed(t, "P7.1: Remove(0) of the root alone", x.Remove(0), api.ErrNone)
	holds(t, "P7.1: Remove of all", x, newModel())
}

// P7.1: who is removed isn't ready first: nor then is a group in which it was
// the last one.
func TestRemoveReady(t *testing.T) {
	x := grown(t, one{0, 1, 1, group}, one{1, 2, 1, group}, one{2, 3, 1, thread}, one{2, 4, 1, thread}, one{0, 5, 1, thread})
	awake(t, x, 3, 4, 5)
	failed(t, "P7.1: Remove", x.Remove(3), 0)
	ready(t, "P7.1: another one is ready", x, 0, 1, 2, 4, 5)
	failed(t, "P7.1: Remove", x.Remove(4), 0)
	ready(t, "P7.1: none in it is ready", x, 0, 5)
	ran(t, "the other one", x, 5, 5)
	failed(t, "P7.1: Remove of a group", x.Remove(2), 0)
	ready(t, "P7.1: the group wasn't ready", x, 0, 5)
	failed(t, "P7.1: Remove", x.Remove(5), 0)
	ready(t, "P7.1: none", x)
	idle(t, "none is left", x)
}

// P7.1: who comes with an ID of one that has gone has nothing of it.
func TestRemoveThenAdd(t *testing.T) {
	x := grown(t, one{0, 1, 2, group}, one{1, 2, 1, thread}, one{0, 3, 1, thread})
	awake(t, x, 2, 3)
	ran(t, "both", x, 2, 3, 2)
	passes(t, "P7.3: both", x, whole, 2*whole, whole)
	failed(t, "P7.1: Remove", x.Remove(2), 0)
	failed(t, "P7.1: Remove", x.Remove(1), 0)
	failed(t, "P7.1: Add", x.Add(0, 1, 3, group), 0)
	failed(t, "P7.1: Add", x.Add(1, 2, 4, thread), 0)
	passes(t, "P7.1: new ones", x, whole/2, 0, whole)
	ready(t, "P7.1: new ones", x, 0, 3)
	failed(t, "P7.1: Remove", x.Remove(2), 0)
	failed(t, "P7.1: Remove", x.Remove(1), 0)
	failed(t, "P7.1: Add of a thread, where a group was", x.Add(0, 1, 3, thread), 0)
	awake(t, x, 1)
	ran(t, "a thread, where a group was", x, 1, 1, 3)
}

// P7.1: Ready's error; a group can't be made ready, nor one that isn't there.
func TestReadyWrong(t *testing.T) {
	x, m := tree.New(), newModel()
	for _, o := range []one{{0, 1, 1, thread}, {0, 2, 2, group}, {2, 3, 3, thread}, {0, 4, 1, group}} {
		call{'a', o}.both(t, x, m)
	}
	call{'y', one{id: 3}}.both(t, x, m)
	for _, id := range []int{math.MinInt, -1, 0, 2, 4, 5, 1 << 32, math.MaxInt} {
		failed(t, fmt.Sprintf("P7.1: Ready(%d, true)", id), x.Ready(id, true), api.ErrNone)
		failed(t, fmt.Sprintf("P7.1: Ready(%d, false)", id), x.Ready(id, false), api.ErrNone)
	}
	holds(t, "P7.1: Ready, refused", x, m)
}

// P7.2: who becomes ready behind its group's now begins there; who is ahead of
// it stays there; who is ready already isn't touched.
func TestReadyPass(t *testing.T) {
	x := grown(t, one{0, 1, 1, thread}, one{0, 2, 16, thread}, one{0, 3, 1, thread})
	awake(t, x, 1, 2)
	ran(t, "both", x, 1, 2)
	asleep(t, x, 1)
	passes(t, "P7.2: not ready", x, whole, whole/16, 0)
	awake(t, x, 1)
	passes(t, "P7.2: ahead of now", x, whole, whole/16, 0)
	asleep(t, x, 1)
	ran(t, "one", x, 2, 2, 2, 2, 2, 2, 2, 2, 2, 2, 2, 2, 2, 2, 2, 2, 2, 2, 2)
	passes(t, "P7.3: one", x, whole, 20*whole/16, 0)
	awake(t, x, 1)
	passes(t, "P7.2: behind now", x, 19*whole/16, 20*whole/16, 0)
	awake(t, x, 3)
	passes(t, "P7.2: never ran", x, 19*whole/16, 20*whole/16, 19*whole/16)
	ran(t, "1 and 3", x, 1, 3)
	failed(t, "P7.1: Add", x.Add(0, 4, 1, thread), 0)
	asleep(t, x, 3)
	awake(t, x, 4, 4, 1, 2)
	passes(t, "P7.2: ready already", x, 35*whole/16, 20*whole/16, 35*whole/16, 19*whole/16)
	ran(t, "all of them", x, 4, 2, 2)
	asleep(t, x, 4, 4, 3)
	awake(t, x, 1)
	passes(t, "P7.2: all of them", x, 35*whole/16, 22*whole/16, 35*whole/16, 35*whole/16)
	ready(t, "P7.2: all of them", x, 0, 1, 2)
}

// P7.2: a group that becomes ready begins at the now around it; one that is
// ready isn't touched by who becomes ready in it.
func TestReadyAgain(t *testing.T) {
	x := grown(t, one{0, 1, 1, group}, one{0, 2, 1, thread}, one{1, 3, 1, thread}, one{1, 4, 1, thread})
	awake(t, x, 3)
	ran(t, "one", x, 3, 3, 3)
	asleep(t, x, 3)
	awake(t, x, 2)
	ran(t, "another one", x, 2, 2, 2, 2)
	passes(t, "P7.3: another one", x, 3*whole, 6*whole, 3*whole, 0)
	awake(t, x, 4)
	passes(t, "P7.2: the group too", x, 5*whole, 6*whole, 3*whole, 2*whole)
	ran(t, "in the group", x, 4)
	passes(t, "P7.3: in the group", x, 6*whole, 6*whole, 3*whole, 3*whole)
	awake(t, x, 3, 4)
	passes(t, "P7.2: the group is ready already", x, 6*whole, 6*whole, 3*whole, 3*whole)
}

// P7.2: the same of each group that becomes ready by it, up to one that is.
func TestReadyGroups(t *testing.T) {
	x := grown(t, one{0, 1, 1, group}, one{1, 2, 1, group}, one{2, 3, 1, group}, one{3, 4, 1, thread}, one{3, 5, 2, thread},
		one{2, 6, 3, thread}, one{1, 7, 4, thread}, one{0, 8, 5, thread})
	awake(t, x, 8)
	ready(t, "P7.2: in the root", x, 0, 8)
	ran(t, "in the root", x, 8, 8, 8)
	awake(t, x, 7)
	passes(t, "P7.2: in 1", x, 2*whole/5, 0, 0, 0, 0, 0, 0, 3*whole/5)
	ready(t, "P7.2: in 1", x, 0, 1, 7, 8)
	ran(t, "in 1", x, 7, 8, 8, 8)
	asleep(t, x, 8)
	ran(t, "in 1", x, 7, 7)
	awake(t, x, 6)
	passes(t, "P7.2: in 2", x, 17*whole/5, whole/2, 0, 0, 0, 0, 3*whole/4, 6*whole/5)
	ready(t, "P7.2: in 2", x, 0, 1, 2, 6, 7)
	ran(t, "in 2", x, 6, 7, 7)
	awake(t, x, 5)
	passes(t, "P7.2: in 3", x, 32*whole/5, 3*whole/2, 0, 0, 0, whole/3, 5*whole/4, 6*whole/5)
	ready(t, "P7.2: in 3", x, 0, 1, 2, 3, 5, 6, 7)
	asleep(t, x, 6)
	ready(t, "P7.2: 3 is ready", x, 0, 1, 2, 3, 5, 7)
	asleep(t, x, 5)
	ready(t, "P7.2: 3 isn't", x, 0, 1, 7)
	asleep(t, x, 7)
	ready(t, "P7.2: none", x)
	passes(t, "P7.2: nobody moved", x, 32*whole/5, 3*whole/2, 0, 0, 0, whole/3, 5*whole/4, 6*whole/5)
	idle(t, "none", x)
	awake(t, x, 4)
	ready(t, "P7.2: all the way", x, 0, 1, 2, 3, 4)
	passes(t, "P7.2: all the way", x, 32*whole/5, 3*whole/2, 0, 0, 0, whole/3, 5*whole/4, 6*whole/5)
}

// P7.2: Weight's errors; what is refused changes nothing.
func TestWeightWrong(t *testing.T) {
	x, m := tree.New(), newModel()
	for _, o := range []one{{0, 1, 1, thread}, {0, 2, 2, group}, {2, 3, 3, thread}} {
		call{'a', o}.both(t, x, m)
	}
	call{'y', one{id: 3}}.both(t, x, m)
	for _, id := range []int{math.MinInt, -1, 0, 1, 2, 3, 4, 9, 1 << 32, math.MaxInt} {
		for _, weight := range noWeights {
			failed(t, fmt.Sprintf("P7.2: Weight(%d, %d)", id, weight), x.Weight(id, weight), api.ErrForm)
		}
	}
	for _, id := range []int{math.MinInt, -1, 0, 4, 9, 1 << 32, math.MaxInt} {
		for weight := 1; weight <= 16; weight++ {
			failed(t, fmt.Sprintf("P7.2: Weight(%d, %d)", id, weight), x.Weight(id, weight), api.ErrNone)
		}
	}
	holds(t, "P7.2: Weight, refused", x, m)
}

// P7.2: with its weight what a node is ahead of its group's now changes,
// rounded down; who isn't ahead of it stays; ready or not.
func TestWeightPass(t *testing.T) {
	for from := 1; from <= 16; from++ {
		for to := 1; to <= 16; to++ {
			x := grown(t, one{0, 1, 3, thread}, one{0, 2, from, thread}, one{0, 3, from, thread}, one{0, 4, from, thread}, one{0, 5, from, group}, one{5, 6, 1, thread})
			awake(t, x, 1)
			ran(t, "now is two strides", x, 1, 1, 1)
			now := 2 * whole / 3
			awake(t, x, 2, 3, 6)
			ran(t, "three run", x, 2, 3, 6)
			asleep(t, x, 3)
			far := whole / from
			passes(t, "P7.3: three run", x, whole, now+far, now+far, 0, now+far, whole)
			for _, id := range []int{2, 3, 4, 5} {
				failed(t, "P7.2: Weight", x.Weight(id, to), 0)
				if n, _ := x.Node(id); n.Weight != to {
					t.Errorf("P7.2: Weight(%d, %d): %v", id, to, n)
				}
			}
			far = far * (whole / to) / (whole / from)
			passes(t, fmt.Sprintf("P7.2: Weight from %d to %d", from, to), x, whole, now+far, now+far, 0, now+far, whole)
			ready(t, "P7.2: Weight", x, 0, 1, 2, 5, 6)
			awake(t, x, 4)
			failed(t, "P7.2: Weight at now", x.Weight(4, from), 0)
			passes(t, "P7.2: at now", x, whole, now+far, now+far, now, now+far, whole)
		}
	}
}

// P7.2: by its new weight a node goes where its new pass belongs among those
// that are ready, and goes on by its new stride.
func TestWeightRun(t *testing.T) {
	x := grown(t, one{0, 1, 4, thread}, one{0, 2, 4, thread}, one{0, 3, 4, thread})
	awake(t, x, 1, 2, 3)
	ran(t, "alike", x, 1, 2, 3)
	failed(t, "P7.2: Weight", x.Weight(3, 16), 0)
	failed(t, "P7.2: Weight", x.Weight(1, 1), 0)
	passes(t, "P7.2: Weight", x, whole, whole/4, whole/16)
	ran(t, "unlike", x, 3, 3, 3, 2, 3, 3, 3, 3, 2, 3, 3, 3, 3, 2, 3, 3, 3, 3, 1)
	failed(t, "P7.2: Weight of one not ready", x.Weight(2, 1), 0)
	asleep(t, x, 2)
	failed(t, "P7.2: Weight of one not ready", x.Weight(2, 16), 0)
	ready(t, "P7.2: Weight makes none ready", x, 0, 1, 3)
}

// P7.3: of those that are ready the least pass, of several the least ID.
func TestRun(t *testing.T) {
	x := grown(t, one{0, 7, 1, thread}, one{0, 3, 2, thread}, one{0, 5, 1, thread}, one{0, 1, 1, thread})
	awake(t, x, 5, 7, 3)
	ran(t, "three of four", x, 3, 5, 7, 3, 3, 5, 7, 3)
	passes(t, "P7.3: three of four", x, 0, 2*whole, 2*whole, 2*whole)
	asleep(t, x, 3)
	ran(t, "two of four", x, 5, 7, 5, 7)
	passes(t, "P7.3: two of four", x, 0, 2*whole, 4*whole, 4*whole)
	awake(t, x, 1)
	passes(t, "P7.3: now is the least pass", x, 3*whole, 2*whole, 4*whole, 4*whole)
	ran(t, "three of four", x, 1, 1, 5, 7)
	asleep(t, x, 1, 5, 7)
	idle(t, "none of four", x)
	passes(t, "P7.3: none of four", x, 5*whole, 2*whole, 5*whole, 5*whole)
}

// P7.3: from the root down, each one on the way goes by its own stride, and
// nobody else.
func TestRunDown(t *testing.T) {
	x := grown(t, one{0, 1, 2, group}, one{1, 2, 3, group}, one{2, 3, 4, thread}, one{1, 4, 6, thread}, one{0, 5, 5, thread}, one{2, 6, 1, thread})
	awake(t, x, 3, 4, 5)
	ran(t, "in 2", x, 3)
	passes(t, "P7.3: in 2", x, whole/2, whole/3, whole/4, 0, 0, 0)
	ran(t, "in the root", x, 5)
	passes(t, "P7.3: in the root", x, whole/2, whole/3, whole/4, 0, whole/5, 0)
	ran(t, "in 1", x, 5, 5, 4)
	passes(t, "P7.3: in 1", x, whole, whole/3, whole/4, whole/6, 3*whole/5, 0)
	ran(t, "a group that is least, though one in it isn't", x, 5, 5, 4, 5, 5, 5)
	ran(t, "of those alike the least ID", x, 3)
	asleep(t, x, 4, 5)
	ran(t, "in 2 alone", x, 3, 3)
	failed(t, "P7.1: Add", x.Add(2, 7, 1, thread), 0)
	failed(t, "P7.1: Add", x.Add(1, 8, 1, thread), 0)
	failed(t, "P7.1: Add", x.Add(0, 9, 1, thread), 0)
	passes(t, "P7.3: nows", x, 3*whole, 4*whole/3, whole, whole/3, 8*whole/5, 0, 3*whole/4, whole, 5*whole/2)
}

// strides whose sum is MaxPass, and one more, told by their weights.
var toMaxPass = []int{1, 1, 1, 1, 1, 1, 1, 1, 1, 1, 1, 1, 1, 1, 1, 1, 1, 1, 1, 1, 1, 1, 7, 7, 9, 11, 11, 11, 11, 13, 13, 13, 13, 13, 15, 15}
var pastMaxPass = []int{1, 1, 1, 1, 1, 1, 1, 1, 1, 1, 1, 1, 1, 1, 1, 1, 1, 1, 1, 1, 1, 3, 9, 9, 10, 11, 11, 11, 11, 11, 11, 11, 12, 13, 13, 13, 13, 13, 13, 13, 13, 13, 13, 14, 16}

// stridden lets the thread, which runs alone, go on by these strides: its
// group's now is their sum. A weight takes hold of the stride ahead of now.
func stridden(t *testing.T, x *tree.Tree, id int, weights []int) {
	t.Helper()
	ran(t, "alone", x, id)
	for _, weight := range weights {
		failed(t, "P7.2: Weight", x.Weight(id, weight), 0)
		ran(t, "alone", x, id)
	}
}

// P7.3: a now of MaxPass stays; one above it is taken from all in the group,
// ready or not, ahead or behind, 0 at least.
func TestMaxPass(t *testing.T) {
	for _, in := range []int{0, 2} { // in the root, in a group
		x := grown(t, one{0, 2, 1, group}, one{in, 3, 1, thread}, one{in, 4, 1, thread}, one{in, 5, 1, group}, one{in, 6, 1, thread})
		at := func(id int) int {
			n, _ := x.Node(id)
			return n.Pass
		}
		awake(t, x, 3, 4)
		ran(t, "two", x, 3, 4)
		asleep(t, x, 4)
		stridden(t, x, 3, toMaxPass[1:])
		if at(3) != 1<<24+whole/15 || at(4) != whole || at(5) != 0 {
			t.Errorf("P7.3: in %d, now is MaxPass: %v", in, x.Nodes())
		}
		awake(t, x, 6)
		if at(6) != 1<<24 {
			t.Errorf("P7.3: in %d, now is MaxPass: %v", in, x.Nodes())
		}
		asleep(t, x, 6)

		x = grown(t, one{0, 2, 1, group}, one{in, 3, 1, thread}, one{in, 4, 1, thread}, one{in, 5, 1, group}, one{in, 6, 1, thread})
		awake(t, x, 3, 4)
		ran(t, "two", x, 3, 4)
		asleep(t, x, 4)
		stridden(t, x, 3, pastMaxPass[1:len(pastMaxPass)-1])
		failed(t, "P7.2: Weight", x.Weight(3, 16), 0)
		awake(t, x, 6)
		failed(t, "P7.2: Weight", x.Weight(6, 2), 0)
		ran(t, "another one, then past MaxPass", x, 6, 3)
		if at(3) != whole/16 || at(4) != 0 || at(5) != 0 || at(6) != whole/2-whole/16 {
			t.Errorf("P7.3: in %d, now is above MaxPass: %v", in, x.Nodes())
		}
		asleep(t, x, 3, 6)
		awake(t, x, 4)
		if at(4) != 0 {
			t.Errorf("P7.3: in %d, now is 0: %v", in, x.Nodes())
		}
		awake(t, x, 3, 6)
		ran(t, "from 0 on", x, 4, 3, 3, 3, 3, 3, 3, 3, 6)
	}
}

// P7.3: each group on the way is held against MaxPass by itself, and a group
// that isn't on the way isn't touched.
func TestMaxPassGroups(t *testing.T) {
	x, m := tree.New(), newModel()
	for _, o := range []one{{0, 1, 1, group}, {1, 2, 16, group}, {2, 3, 1, thread}, {2, 4, 1, thread}, {1, 5, 1, thread}, {0, 6, 16, thread}} {
		call{'a', o}.both(t, x, m)
	}
	call{'y', one{id: 3}}.both(t, x, m)
	nows := func() [3]int { return [3]int{m[0].now, m[1].now, m[2].now} }
	seen := map[[3]bool]bool{}
	for n := range 3000 {
		switch {
		case n%7 == 3:
			call{'y', one{id: 5}}.both(t, x, m)
		case n%7 == 5:
			call{'n', one{id: 5}}.both(t, x, m)
		case n == 1500:
			call{'w', one{id: 1, weight: 13}}.both(t, x, m)
		case n%211 == 1:
			call{'y', one{id: 6}}.both(t, x, m)
		case n%211 == 40:
			call{'n', one{id: 6}}.both(t, x, m)
		}
		was := nows()
		call{op: 'r'}.both(t, x, m)
		is := nows()
		seen[[3]bool{is[0] < was[0], is[1] < was[1], is[2] < was[2]}] = true
		if got := x.Nodes(); !slices.Equal(got, m.nodes()) {
			t.Fatalf("P7.3: after %d: %v, want %v", n, got, m.nodes())
		}
	}
	for _, one := range [][3]bool{{}, {true}, {false, true}, {false, false, true}, {true, false, true}} {
		if !seen[one] {
			t.Errorf("the test's own: never %v", one)
		}
	}
}

// P7.4: of each two weights, both always ready, each gets what it weighs, at
// any time and over whatever is taken from the passes.
func TestFair(t *testing.T) {
	for a := 1; a <= 16; a++ {
		for b := 1; b <= 16; b++ {
			for _, in := range []int{0, 3} {
				x := grown(t, one{0, 3, 1, group}, one{in, 1, a, thread}, one{in, 2, b, thread})
				awake(t, x, 1, 2)
				counts := map[int]int{}
				for range 600 {
					id, _ := x.Run()
					counts[id]++
					if !stride.Fair(counts[1], a, counts[2], b) {
						t.Fatalf("P7.4: weights %d, %d: %v", a, b, counts)
					}
				}
			}
		}
	}
}

// P7.4: groups share as threads do, whatever is in them, and so do those in
// them.
func TestFairGroups(t *testing.T) {
	x := grown(t, one{0, 1, 5, group}, one{0, 2, 3, group}, one{0, 3, 7, thread}, one{1, 4, 2, thread}, one{1, 5, 9, group},
		one{5, 6, 1, thread}, one{5, 7, 16, thread}, one{2, 8, 1, thread})
	awake(t, x, 3, 4, 6, 7, 8)
	c := map[int]int{}
	for range 4000 {
		id, _ := x.Run()
		c[id]++
		c[5] = c[6] + c[7]
		c[1] = c[4] + c[5]
		c[2] = c[8]
		for _, p := range [][4]int{{1, 5, 2, 3}, {1, 5, 3, 7}, {2, 3, 3, 7}, {4, 2, 5, 9}, {6, 1, 7, 16}} {
			if !stride.Fair(c[p[0]], p[1], c[p[2]], p[3]) {
				t.Fatalf("P7.4: %v: %v", p, c)
			}
		}
	}
	if c[1]+c[2]+c[3] != 4000 {
		t.Errorf("P7.4: %v", c)
	}
}

// P7.4: who was away takes from the others no more than its part from then on,
// also in a group that was away.
func TestFairAfterRest(t *testing.T) {
	x := grown(t, one{0, 1, 2, thread}, one{0, 2, 6, group}, one{2, 3, 1, thread}, one{2, 4, 2, thread})
	awake(t, x, 1, 3)
	for _, away := range []int{3, 4, 1} {
		awake(t, x, 1, 3, 4)
		asleep(t, x, away)
		for range 333 {
			x.Run()
		}
		awake(t, x, away)
		counts := map[int]int{}
		for range 500 {
			id, _ := x.Run()
			counts[id]++
			if !stride.Fair(counts[1], 2, counts[3]+counts[4], 6) || !stride.Fair(counts[3], 1, counts[4], 2) {
				t.Fatalf("P7.4: %d was away: %v", away, counts)
			}
		}
	}
}

// P7.4: what a thread gets hangs on no group that it isn't in: those in one
// group run in the same order whatever runs beside it.
func TestOrderWithin(t *testing.T) {
	order := func(beside ...int) []int {
		x := grown(t, one{0, 1, 3, group}, one{1, 2, 3, thread}, one{1, 3, 5, thread}, one{1, 4, 7, thread}, one{0, 5, 2, thread}, one{0, 6, 11, thread})
		awake(t, x, 2, 3, 4)
		awake(t, x, beside...)
		var out []int
		for len(out) < 300 {
			if id, _ := x.Run(); id <= 4 {
				out = append(out, id)
			}
		}
		return out
	}
	want := order()
	for _, beside := range [][]int{{5}, {6}, {5, 6}} {
		if got := order(beside...); !slices.Equal(got, want) {
			t.Errorf("P7.4: beside %v: %v, want %v", beside, got, want)
		}
	}
}

// What Nodes answers is the caller's: whatever is done with it, with the room
// behind it too, or with the Tree later, neither sees anything of the other.
func TestNodesApart(t *testing.T) {
	x, m := tree.New(), newModel()
	for _, o := range []one{{0, 1, 1, thread}, {0, 2, 2, group}, {2, 3, 3, thread}} {
		call{'a', o}.both(t, x, m)
	}
	call{'y', one{id: 3}}.both(t, x, m)
	first, other := x.Nodes(), x.Nodes()
	for at := range first[:cap(first)] {
		first[:cap(first)][at] = api.Node{ID: 99, Parent: 99, Weight: 99, Pass: 99}
	}
	if !slices.Equal(other, m.nodes()) {
		t.Errorf("P7.3: Nodes, with another one changed: %v, want %v", other, m.nodes())
	}
	holds(t, "P7.3: Nodes changed", x, m)
	call{op: 'r'}.both(t, x, m)
	call{'a', one{0, 4, 1, thread}}.both(t, x, m)
	call{'d', one{id: 1}}.both(t, x, m)
	if other[1].ID != 1 || other[3].Pass != 0 || len(other) != 4 {
		t.Errorf("P7.3: Nodes, with the Tree changed: %v", other)
	}
	holds(t, "P7.3: later", x, m)
}

// One Tree has nothing of another one.
func TestTreesApart(t *testing.T) {
	x, y := grown(t, one{0, 1, 1, thread}), grown(t, one{0, 1, 2, thread}, one{0, 2, 1, thread})
	awake(t, x, 1)
	awake(t, y, 2)
	ran(t, "one", x, 1, 1)
	ran(t, "another one", y, 2)
	passes(t, "P7.3: one", x, 2*whole)
	passes(t, "P7.3: another one", y, 0, whole)
	failed(t, "P7.1: Remove", y.Remove(2), 0)
	ready(t, "P7.1: one", x, 0, 1)
	ready(t, "P7.1: another one", y)
}

// No call panics, whatever it is given, and each answers what the chapter says.
func TestAllArguments(t *testing.T) {
	x, m := tree.New(), newModel()
	dice := rand.New(rand.NewSource(7))
	for range 20000 {
		n := func() int { return wild[dice.Intn(len(wild))] }
		c := call{"aaadyynwwr"[dice.Intn(10)], one{n(), n(), n(), dice.Intn(2) == 0}}
		c.both(t, x, m)
		if got := x.Nodes(); !slices.Equal(got, m.nodes()) || t.Failed() {
			t.Fatalf("%v: Nodes: %v, want %v", c, got, m.nodes())
		}
	}
	holds(t, "wild", x, m)
}

// A Tree that New didn't make has nothing, not even a root, and none panics.
func TestNotMade(t *testing.T) {
	x := new(tree.Tree)
	failed(t, "P7.1: Add", x.Add(0, 1, 1, thread), api.ErrNone)
	failed(t, "P7.1: Remove", x.Remove(0), api.ErrNone)
	failed(t, "P7.1: Ready", x.Ready(0, true), api.ErrNone)
	failed(t, "P7.2: Weight", x.Weight(0, 1), api.ErrNone)
	idle(t, "not made", x)
	holds(t, "not made", x, model{})
}

// P7.1, P7.2, P7.3: each row of a few calls, call by call against the model.
func TestEachRow(t *testing.T) {
	begin := []call{{'a', one{0, 1, 1, thread}}, {'a', one{0, 2, 3, group}}, {'a', one{2, 3, 5, thread}}, {'a', one{2, 4, 2, group}}, {'a', one{4, 5, 16, thread}}}
	calls := []call{{op: 'r'}, {'a', one{0, 6, 2, thread}}, {'a', one{4, 6, 2, group}}, {'w', one{id: 3, weight: 1}}, {'w', one{id: 2, weight: 7}}, {'w', one{id: 4, weight: 16}}}
	for _, id := range []int{1, 3, 5} {
		calls = append(calls, call{'y', one{id: id}}, call{'n', one{id: id}}, call{'d', one{id: id}})
	}
	var chosen []call
	var rows func(left int)
	rows = func(left int) {
		x, m := tree.New(), newModel()
		for _, c := range slices.Concat(begin, chosen) {
			c.both(t, x, m)
		}
		for range 3 {
			call{op: 'r'}.both(t, x, m)
		}
		if got := x.Nodes(); !slices.Equal(got, m.nodes()) {
			t.Errorf("%v: Nodes: %v, want %v", chosen, got, m.nodes())
		}
		if left == 0 || t.Failed() {
			return
		}
		for _, c := range calls {
			chosen = append(chosen, c)
			rows(left - 1)
			chosen = chosen[:len(chosen)-1]
		}
	}
	rows(4)
}

// P7.1, P7.2, P7.3: long rows of calls; few nodes and many, often changed and
// seldom.
func TestLongRows(t *testing.T) {
	for seed := range int64(60) {
		dice := rand.New(rand.NewSource(seed))
		ids := []int{5, 12, 30, 75}[seed%4]
		ops := []string{"aaadyyynwrrrr", "aayyynwwrrrrrrrrrrrrrrrrrrrrrrrrrrrrrr", "aaaaaadyyyyyyyyynnwwrrrrrrrrrrrr"}[seed%3]
		x, m := tree.New(), newModel()
		for range 1500 {
			c := call{ops[dice.Intn(len(ops))], one{dice.Intn(ids), dice.Intn(ids), 1 + dice.Intn(16), dice.Intn(3) > 0}}
			if dice.Intn(3) == 0 {
				c.parent = 0
			}
			c.both(t, x, m)
			if got := x.Nodes(); !slices.Equal(got, m.nodes()) || t.Failed() {
				t.Fatalf("seed %d: %v: Nodes:\n%v, want\n%v", seed, c, got, m.nodes())
			}
		}
		holds(t, fmt.Sprintf("seed %d", seed), x, m)
	}
}

func Example() {
	t := tree.New()
	t.Add(0, 1, 1, true)
	t.Add(0, 2, 2, true)
	t.Ready(1, true)
	t.Ready(2, true)
	for range 7 {
		id, _ := t.Run()
		fmt.Print(id, " ")
	}
	fmt.Println(t.Deep(2), errors.Is(t.Add(1, 3, 1, true), api.ErrNone))
	// Output: 1 2 2 1 2 2 1 2 true
}
