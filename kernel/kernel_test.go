package kernel_test

import (
	"errors"
	"fmt"
	"maps"
	"math"
	"math/rand"
	"slices"
	"testing"

	"tontine/api"
	"tontine/kernel"
	"tontine/tree"
)

const (
	whole       = 720720
	mostThreads = 8
	mostGroups  = 4
	objects     = 4
	mostCount   = 255
)

var (
	// wild are numbers at which a number might go wrong.
	wild = []int{
		math.MinInt, math.MinInt + 1, -1 << 40, -1 << 32, -1<<31 - 1, -1 << 31, -255, -17, -4, -3, -2, -1,
		60, 61, 64, 255, 256, 1<<31 - 1, 1 << 31, 1<<32 - 1, 1 << 32, 1<<32 + 1, 1<<32 + 2, 1 << 40,
		math.MaxInt - 1, math.MaxInt,
	}
	noWeights = []int{math.MinInt, -1 << 32, -17, -16, -1, 0, 17, 18, 32, 255, whole, 1 << 32, 1<<32 + 1, math.MaxInt}
	noObjects = []int{math.MinInt, -1 << 32, -4, -3, -1, 4, 5, 8, 255, 1 << 32, 1<<32 + 3, math.MaxInt}
)

// failed holds an error against the number that is asked for, 0 of none.
func failed(t *testing.T, what string, err error, want api.Errno) {
	t.Helper()
	if want == 0 && err == nil {
		return
	}
	var got api.Errno
	if want == 0 || !errors.As(err, &got) || got != want || !errors.Is(err, want) {
		t.Errorf("P10.1: %s: error %v, want %d", what, err, int(want))
	}
}

// model is the chapter's Kernel, as plainly as may be: the tree (layer 7) is
// as it is, who sleeps and who waits are lists.
type model struct {
	tree            *tree.Tree
	threads, groups []int
	most, mostG     int
	asleep          map[int]int
	rows            [objects][]int
	counts          [objects]int
	next            int
}

func newModel(threads, groups int) *model {
	m := &model{tree: tree.New(), asleep: map[int]int{}, threads: []int{1}, groups: []int{0}, next: 2}
	m.most = min(max(threads, 1), mostThreads)
	m.mostG = min(max(groups, 0), mostGroups)
	m.tree.Add(0, 1, 1, true)
	m.tree.Ready(1, true)
	return m
}

func (m *model) spawn(group, weight int) (int, api.Errno) {
	switch {
	case weight < 1 || weight > 16:
		return 0, api.ErrForm
	case !slices.Contains(m.groups, group):
		return 0, api.ErrNone
	case len(m.threads) == m.most:
		return 0, api.ErrFull
	}
	id := m.next
	m.next++
	m.threads = append(m.threads, id)
	m.tree.Add(group, id, weight, true)
	m.tree.Ready(id, true)
	return id, 0
}

func (m *model) group(parent, weight int) (int, api.Errno) {
	switch {
	case weight < 1 || weight > 16:
		return 0, api.ErrForm
	case !slices.Contains(m.groups, parent):
		return 0, api.ErrNone
	case len(m.groups) == m.mostG+1:
		return 0, api.ErrFull
	case m.tree.Deep(parent) == 4:
		return 0, api.ErrLarge
	}
	id := m.next
	m.next++
	m.groups = append(m.groups, id)
	m.tree.Add(parent, id, weight, false)
	return id, 0
}

func (m *model) waits(id int) bool {
	return slices.ContainsFunc(m.rows[:], func(row []int) bool { return slices.Contains(row, id) })
}

func (m *model) ready(id int) bool {
	_, sleeps := m.asleep[id]
	return slices.Contains(m.threads, id) && !sleeps && !m.waits(id)
}

func (m *model) exit(id int) api.Errno {
	if !slices.Contains(m.threads, id) {
		return api.ErrNone
	}
	is := func(other int) bool { return other == id }
	m.threads = slices.DeleteFunc(slices.Clone(m.threads), is)
	delete(m.asleep, id)
	for obj, row := range m.rows {
		m.rows[obj] = slices.DeleteFunc(slices.Clone(row), is)
	}
	m.tree.Remove(id)
	return 0
}

func (m *model) sleep(id, until int) api.Errno {
	if !m.ready(id) {
		return api.ErrNone
	}
	m.asleep[id] = until
	m.tree.Ready(id, false)
	return 0
}

func (m *model) wait(id, obj int) (bool, api.Errno) {
	switch {
	case !m.ready(id):
		return false, api.ErrNone
	case obj < 0 || obj >= objects:
		return false, api.ErrForm
	case m.counts[obj] > 0:
		m.counts[obj]--
		return true, 0
	}
	m.rows[obj] = append(m.rows[obj], id)
	m.tree.Ready(id, false)
	return false, 0
}

func (m *model) signal(obj int) api.Errno {
	switch {
	case obj < 0 || obj >= objects:
		return api.ErrForm
	case len(m.rows[obj]) > 0:
		m.tree.Ready(m.rows[obj][0], true)
		m.rows[obj] = slices.Clone(m.rows[obj][1:])
	case m.counts[obj] < mostCount:
		m.counts[obj]++
	}
	return 0
}

func (m *model) weight(id, weight int) api.Errno {
	if weight < 1 || weight > 16 {
		return api.ErrForm
	}
	if id == 0 || !slices.Contains(m.threads, id) && !slices.Contains(m.groups, id) {
		return api.ErrNone
	}
	m.tree.Weight(id, weight)
	return 0
}

func (m *model) wake(tick int) []int {
	var due []int
	for id, until := range m.asleep {
		if until <= tick {
			due = append(due, id)
		}
	}
	slices.Sort(due)
	for _, id := range due {
		delete(m.asleep, id)
		m.tree.Ready(id, true)
	}
	return due
}

func (m *model) runnable() bool {
	return slices.ContainsFunc(m.threads, m.ready)
}

// call is one that changes something: p is Spawn, g Group, x Exit, s Sleep, w
// Wait, n Signal, h Weight, k Wake, r Run.
type call struct {
	op   byte
	a, b int
}

func (c call) String() string {
	return fmt.Sprintf("%c(%d, %d)", c.op, c.a, c.b)
}

// both makes the call of k and of the model.
func (c call) both(t *testing.T, k *kernel.Kernel, m *model) {
	t.Helper()
	switch c.op {
	case 'p':
		id, code := m.spawn(c.a, c.b)
		spawned(t, k, c.a, c.b, id, code)
	case 'g':
		id, code := m.group(c.a, c.b)
		grouped(t, k, c.a, c.b, id, code)
	case 'x':
		failed(t, "Exit "+c.String(), k.Exit(c.a), m.exit(c.a))
	case 's':
		failed(t, "Sleep "+c.String(), k.Sleep(c.a, c.b), m.sleep(c.a, c.b))
	case 'w':
		on, code := m.wait(c.a, c.b)
		waited(t, k, c.a, c.b, on, code)
	case 'n':
		failed(t, "Signal "+c.String(), k.Signal(c.a), m.signal(c.a))
	case 'h':
		failed(t, "Weight "+c.String(), k.Weight(c.a, c.b), m.weight(c.a, c.b))
	case 'k':
		woken(t, k, c.a, m.wake(c.a)...)
	case 'r':
		want, ok := m.tree.Run()
		if got, is := k.Run(); got != want || is != ok {
			t.Errorf("P10.1: Run: %d, %v, want %d, %v", got, is, want, ok)
		}
	default:
		t.Fatalf("the test's own: %v", c)
	}
}

// made is a Kernel of these quotas after these calls, and the model of it.
func made(t *testing.T, threads, groups int, calls ...call) (*kernel.Kernel, *model) {
	t.Helper()
	k, m := kernel.New(threads, groups), newModel(threads, groups)
	for _, c := range calls {
		c.both(t, k, m)
	}
	return k, m
}

func spawned(t *testing.T, k *kernel.Kernel, group, weight, want int, code api.Errno) {
	t.Helper()
	what := fmt.Sprintf("Spawn(%d, %d)", group, weight)
	id, err := k.Spawn(group, weight)
	failed(t, what, err, code)
	if id != want {
		t.Errorf("P10.1: %s: %d, want %d", what, id, want)
	}
}

func grouped(t *testing.T, k *kernel.Kernel, parent, weight, want int, code api.Errno) {
	t.Helper()
	what := fmt.Sprintf("Group(%d, %d)", parent, weight)
	id, err := k.Group(parent, weight)
	failed(t, what, err, code)
	if id != want {
		t.Errorf("P10.1: %s: %d, want %d", what, id, want)
	}
}

func waited(t *testing.T, k *kernel.Kernel, id, obj int, want bool, code api.Errno) {
	t.Helper()
	what := fmt.Sprintf("Wait(%d, %d)", id, obj)
	on, err := k.Wait(id, obj)
	failed(t, what, err, code)
	if on != want {
		t.Errorf("P10.1: %s: %v, want %v", what, on, want)
	}
}

func woken(t *testing.T, k *kernel.Kernel, tick int, want ...int) {
	t.Helper()
	if got := k.Wake(tick); !slices.Equal(got, want) {
		t.Errorf("P10.1: Wake(%d): %v, want %v", tick, got, want)
	}
}

// ran holds the next quanta against who should have them.
func ran(t *testing.T, what string, k *kernel.Kernel, want ...int) {
	t.Helper()
	var got []int
	for range want {
		id, ok := k.Run()
		if !ok {
			t.Errorf("P10.1: %s: Run: none is ready", what)
		}
		got = append(got, id)
	}
	if !slices.Equal(got, want) {
		t.Errorf("P10.1: %s: %v ran, want %v", what, got, want)
	}
}

// ready holds which threads are ready.
func ready(t *testing.T, what string, k *kernel.Kernel, want ...int) {
	t.Helper()
	var got []int
	for _, n := range k.Nodes() {
		if n.Ready && n.Thread {
			got = append(got, n.ID)
		}
	}
	if !slices.Equal(got, want) {
		t.Errorf("P10.1: %s: ready %v, want %v", what, got, want)
	}
	if got := k.Runnable(); got != (len(want) > 0) {
		t.Errorf("P10.1: %s: Runnable: %v", what, got)
	}
}

// stands holds all that may be asked without changing anything, more than
// once.
func stands(t *testing.T, what string, k *kernel.Kernel, m *model) {
	t.Helper()
	threads := slices.Sorted(slices.Values(m.threads))
	for range 2 {
		if got, want := k.Nodes(), m.tree.Nodes(); !slices.Equal(got, want) {
			t.Errorf("P10.1: %s: Nodes:\n%v, want\n%v", what, got, want)
		}
		if got := k.Threads(); !slices.Equal(got, threads) {
			t.Errorf("P10.1: %s: Threads: %v, want %v", what, got, threads)
		}
		if got := k.Runnable(); got != m.runnable() {
			t.Errorf("P10.1: %s: Runnable: %v, want %v", what, got, m.runnable())
		}
	}
	for _, n := range k.Nodes() {
		if n.Thread && n.Ready != m.ready(n.ID) {
			t.Errorf("P10.1: %s: %v, want %v", what, n, m.ready(n.ID))
		}
	}
}

// ended holds k against the model until all that can't be asked (who sleeps
// until when, who waits for what, what is counted, what there is room for) has
// been told.
func ended(t *testing.T, what string, k *kernel.Kernel, m *model) {
	t.Helper()
	stands(t, what, k, m)
	for _, until := range slices.Sorted(maps.Values(m.asleep)) {
		if until > math.MinInt {
			call{'k', until - 1, 0}.both(t, k, m)
		}
		call{'k', until, 0}.both(t, k, m)
		stands(t, what+", woken", k, m)
	}
	call{'k', math.MaxInt, 0}.both(t, k, m)
	for obj := range objects {
		for len(m.rows[obj]) > 0 {
			call{'n', obj, 0}.both(t, k, m)
			stands(t, what+", served", k, m)
		}
	}
	for len(m.threads) < m.most {
		call{'p', 0, 1}.both(t, k, m)
	}
	call{'p', 0, 1}.both(t, k, m)
	for len(m.groups) < m.mostG+1 {
		call{'g', 0, 1}.both(t, k, m)
	}
	call{'g', 0, 1}.both(t, k, m)
	for range 2 * mostThreads {
		call{'r', 0, 0}.both(t, k, m)
	}
	for obj := range objects {
		for m.counts[obj] > 0 {
			call{'w', m.threads[0], obj}.both(t, k, m)
		}
		if len(m.threads) > 1 {
			call{'w', m.threads[0], obj}.both(t, k, m)
			call{'x', m.threads[0], 0}.both(t, k, m)
		}
	}
	stands(t, what+", at last", k, m)
}

// P10.1: at first there are the root and thread 1, ready, whatever the quotas;
// these are held.
func TestNew(t *testing.T) {
	if api.MaxThreads != mostThreads || api.MaxGroups != mostGroups || api.MaxObjects != objects || api.MaxCount != mostCount || api.Whole != whole {
		t.Fatal("the test's own: other limits")
	}
	quotas := slices.Concat(wild, []int{0, 1, 2, 3, 4, 5, 6, 7, 8, 9, 10})
	for _, threads := range quotas {
		for _, groups := range quotas {
			what := fmt.Sprintf("New(%d, %d)", threads, groups)
			k := kernel.New(threads, groups)
			want := []api.Node{{Parent: -1, Weight: 1, Ready: true}, {ID: 1, Weight: 1, Thread: true, Ready: true}}
			if got := k.Nodes(); !slices.Equal(got, want) {
				t.Errorf("P10.1: %s: Nodes: %v, want %v", what, got, want)
			}
			if got := k.Threads(); !slices.Equal(got, []int{1}) || !k.Runnable() {
				t.Errorf("P10.1: %s: Threads: %v, Runnable: %v", what, got, k.Runnable())
			}
			woken(t, k, math.MaxInt)
			room, roomG := 0, 0
			for id := 2; ; id++ {
				if got, err := k.Spawn(0, 1); err != nil {
					break
				} else if got != id {
					t.Fatalf("P10.1: %s: Spawn: %d, want %d", what, got, id)
				}
				room++
			}
			for id := 2 + room; ; id++ {
				if got, err := k.Group(0, 1); err != nil {
					break
				} else if got != id {
					t.Fatalf("P10.1: %s: Group: %d, want %d", what, got, id)
				}
				roomG++
			}
			if room+1 != min(max(threads, 1), mostThreads) || roomG != min(max(groups, 0), mostGroups) {
				t.Errorf("P10.1: %s: %d threads and %d groups", what, room+1, roomG)
			}
			spawned(t, k, 0, 1, 0, api.ErrFull)
			grouped(t, k, 0, 1, 0, api.ErrFull)
		}
	}
	k := kernel.New(1, 0)
	ran(t, "new", k, 1, 1, 1)
	if n := k.Nodes()[1]; n.Pass != 3*whole {
		t.Errorf("P10.1: new, three quanta: %v", n)
	}
}

// P10.1: threads and groups have their numbers out of one row; whoever is gone,
// none is given again, and what is refused takes none.
func TestNumbers(t *testing.T) {
	k := kernel.New(3, 3)
	spawned(t, k, 0, 3, 2, 0)
	grouped(t, k, 0, 4, 3, 0)
	spawned(t, k, 0, 0, 0, api.ErrForm)
	spawned(t, k, 2, 1, 0, api.ErrNone)
	grouped(t, k, 0, 17, 0, api.ErrForm)
	grouped(t, k, 1, 1, 0, api.ErrNone)
	spawned(t, k, 3, 16, 4, 0)
	spawned(t, k, 3, 1, 0, api.ErrFull)
	grouped(t, k, 3, 1, 5, 0)
	grouped(t, k, 5, 1, 6, 0)
	grouped(t, k, 6, 1, 0, api.ErrFull)
	for n := range 20 {
		id := []int{4, 2, 1}[n%3]
		if n >= 3 {
			id = n + 4
		}
		failed(t, "Exit", k.Exit(id), 0)
		failed(t, "Exit", k.Exit(id), api.ErrNone)
		spawned(t, k, []int{0, 3, 5, 6}[n%4], 1, n+7, 0)
		spawned(t, k, 0, 1, 0, api.ErrFull)
	}
	if got := k.Threads(); !slices.Equal(got, []int{24, 25, 26}) {
		t.Errorf("P10.1: Threads: %v", got)
	}
	want := []api.Node{
		{Parent: -1, Weight: 1, Ready: true},
		{ID: 3, Weight: 4, Ready: true},
		{ID: 5, Parent: 3, Weight: 1, Ready: true},
		{ID: 6, Parent: 5, Weight: 1, Ready: true},
		{ID: 24, Parent: 3, Weight: 1, Thread: true, Ready: true},
		{ID: 25, Parent: 5, Weight: 1, Thread: true, Ready: true},
		{ID: 26, Parent: 6, Weight: 1, Thread: true, Ready: true},
	}
	if got := k.Nodes(); !slices.Equal(got, want) {
		t.Errorf("P10.1: Nodes:\n%v, want\n%v", got, want)
	}
}

// P10.1: of threads there are as many as the quota at once, wherever they are
// and whatever they do; only who is gone makes room.
func TestThreadsAtOnce(t *testing.T) {
	for most := 1; most <= mostThreads; most++ {
		k, m := made(t, most, 1, call{'g', 0, 1})
		for id := 3; id < most+2; id++ {
			call{'p', 2 * (id % 2), id}.both(t, k, m)
		}
		if len(m.threads) != most {
			t.Fatalf("the test's own: %v of %d", m.threads, most)
		}
		busy := []call{{'s', 1, 5}, {'w', 3, 0}, {'w', 4, 0}, {'s', 5, 9}, {'w', 6, 3}, {'r', 0, 0}, {'h', 1, 7}, {'n', 1, 0}}
		for _, c := range busy {
			c.both(t, k, m)
			call{'p', 0, 1}.both(t, k, m)
			call{'p', 2, 1}.both(t, k, m)
			stands(t, fmt.Sprintf("%d threads, %v", most, c), k, m)
		}
		for _, id := range slices.Clone(m.threads) {
			call{'x', id, 0}.both(t, k, m)
			call{'p', 2, 2}.both(t, k, m)
			call{'p', 2, 2}.both(t, k, m)
			stands(t, fmt.Sprintf("%d threads, without %d", most, id), k, m)
		}
		ended(t, fmt.Sprintf("%d threads", most), k, m)
	}
}

// P10.1: of groups there are as many as the quota, the root not counted, and
// none goes.
func TestGroupsAtOnce(t *testing.T) {
	for most := range mostGroups + 1 {
		k, m := made(t, 2, most)
		for range most + 2 {
			call{'g', 0, 16}.both(t, k, m)
		}
		if len(m.groups) != most+1 {
			t.Fatalf("the test's own: %v of %d", m.groups, most)
		}
		for _, group := range m.groups {
			call{'p', group, 1}.both(t, k, m)
			call{'x', group, 0}.both(t, k, m)
			call{'g', group, 1}.both(t, k, m)
			call{'x', m.threads[len(m.threads)-1], 0}.both(t, k, m)
			call{'g', group, 1}.both(t, k, m)
		}
		ended(t, fmt.Sprintf("%d groups", most), k, m)
	}
}

// P10.1: weights from 1 to MaxWeight; the new one's pass is its group's now,
// and it is ready, a group is not.
func TestAdded(t *testing.T) {
	for weight := 1; weight <= 16; weight++ {
		k := kernel.New(8, 4)
		ran(t, "ahead of others", k, 1, 1, 1)
		spawned(t, k, 0, weight, 2, 0)
		grouped(t, k, 0, weight, 3, 0)
		want := []api.Node{
			{Parent: -1, Weight: 1, Ready: true},
			{ID: 1, Weight: 1, Pass: 3 * whole, Thread: true, Ready: true},
			{ID: 2, Weight: weight, Pass: 2 * whole, Thread: true, Ready: true},
			{ID: 3, Weight: weight, Pass: 2 * whole},
		}
		if got := k.Nodes(); !slices.Equal(got, want) {
			t.Errorf("P10.1: weight %d: Nodes:\n%v, want\n%v", weight, got, want)
		}
		ran(t, "the new one", k, 2)
		spawned(t, k, 3, weight, 4, 0)
		want[2].Pass += whole / weight
		want[3].Ready = true
		want = append(want, api.Node{ID: 4, Parent: 3, Weight: weight, Thread: true, Ready: true})
		if got := k.Nodes(); !slices.Equal(got, want) {
			t.Errorf("P10.1: weight %d: Nodes:\n%v, want\n%v", weight, got, want)
		}
		ran(t, "in the new group", k, 4)
	}
}

// adults are a Kernel with groups as deep as may be: in the root are thread 1
// and group 2, in it group 3, in it group 4, in it thread 5, that waits, and
// thread 6, that sleeps; thread 7 was in the root.
func adults(t *testing.T, threads, groups int) (*kernel.Kernel, *model) {
	t.Helper()
	return made(t, threads, groups, call{'g', 0, 1}, call{'g', 2, 2}, call{'g', 3, 3}, call{'p', 4, 4}, call{'p', 4, 5}, call{'p', 0, 1}, call{'w', 5, 2}, call{'s', 6, 10}, call{'x', 7, 0})
}

// P10.1: the errors of Spawn and Group, of several that apply the first of
// them; what is refused changes nothing.
func TestAddWrong(t *testing.T) {
	noGroups := slices.Concat(wild, []int{1, 5, 6, 7, 8, 9})
	for _, full := range []bool{false, true} {
		k, m := adults(t, 4, 4)
		if full {
			call{'p', 0, 1}.both(t, k, m)
			call{'g', 0, 1}.both(t, k, m)
		}
		for _, weight := range noWeights {
			for _, group := range slices.Concat(noGroups, m.groups) {
				spawned(t, k, group, weight, 0, api.ErrForm)
				grouped(t, k, group, weight, 0, api.ErrForm)
			}
		}
		for weight := 1; weight <= 16; weight++ {
			for _, group := range noGroups {
				if slices.Contains(m.groups, group) {
					continue
				}
				spawned(t, k, group, weight, 0, api.ErrNone)
				grouped(t, k, group, weight, 0, api.ErrNone)
			}
			if !full {
				grouped(t, k, 4, weight, 0, api.ErrLarge)
				continue
			}
			for _, group := range m.groups {
				spawned(t, k, group, weight, 0, api.ErrFull)
				grouped(t, k, group, weight, 0, api.ErrFull)
			}
		}
		ended(t, fmt.Sprintf("refused, full: %v", full), k, m)
	}
}

// P10.1: just groups would be too deep, and of a quota of groups that is full
// ErrFull comes ahead of it.
func TestDeep(t *testing.T) {
	k, m := adults(t, 8, 4)
	grouped(t, k, 4, 1, 0, api.ErrLarge)
	spawned(t, k, 4, 1, 8, 0)
	m.spawn(4, 1)
	grouped(t, k, 3, 1, 9, 0)
	m.group(3, 1)
	grouped(t, k, 9, 1, 0, api.ErrFull)
	ended(t, "deep", k, m)
	k, m = adults(t, 8, 3)
	grouped(t, k, 4, 1, 0, api.ErrFull)
	grouped(t, k, 0, 1, 0, api.ErrFull)
	ended(t, "deep, of three", k, m)
}

// P10.1: Exit, Sleep and Wait of what is no thread, no ready one: ErrNone;
// nothing is changed.
func TestNobody(t *testing.T) {
	k, m := adults(t, 8, 4)
	call{'n', 1, 0}.both(t, k, m)
	for _, id := range slices.Concat(wild, []int{0, 2, 3, 4, 7, 8, 9}) {
		failed(t, fmt.Sprintf("Exit(%d)", id), k.Exit(id), api.ErrNone)
		for _, until := range []int{math.MinInt, -1, 0, 1, 9, 10, 11, math.MaxInt} {
			failed(t, fmt.Sprintf("Sleep(%d, %d)", id, until), k.Sleep(id, until), api.ErrNone)
		}
		for obj := -1; obj <= objects; obj++ {
			waited(t, k, id, obj, false, api.ErrNone)
		}
		stands(t, fmt.Sprintf("nobody: %d", id), k, m)
	}
	for _, id := range []int{5, 6} {
		for _, until := range []int{math.MinInt, -1, 0, 1, 9, 10, 11, math.MaxInt} {
			failed(t, fmt.Sprintf("not ready: Sleep(%d, %d)", id, until), k.Sleep(id, until), api.ErrNone)
		}
		for _, obj := range slices.Concat(noObjects, []int{0, 1, 2, 3}) {
			waited(t, k, id, obj, false, api.ErrNone)
		}
		stands(t, fmt.Sprintf("not ready: %d", id), k, m)
	}
	ended(t, "nobody", k, m)
}

// P10.1: a group with a ready thread is no ready thread.
func TestReadyGroup(t *testing.T) {
	k, m := made(t, 3, 2, call{'g', 0, 1}, call{'p', 2, 1})
	for _, id := range []int{0, 2} {
		failed(t, "a group", k.Sleep(id, 1), api.ErrNone)
		waited(t, k, id, 0, false, api.ErrNone)
		failed(t, "a group", k.Exit(id), api.ErrNone)
	}
	ended(t, "groups", k, m)
}

// P10.1: who sleeps is ready just when it is due, at any time there is.
func TestSleep(t *testing.T) {
	times := slices.Concat(wild, []int{0, 1, 2, 1000, 2000})
	slices.Sort(times)
	for _, until := range times {
		for _, tick := range slices.Concat(times, []int{until - 1, until + 1}) {
			k, m := made(t, 2, 0, call{'s', 1, until})
			if k.Runnable() {
				t.Errorf("P10.1: until %d: it sleeps", until)
			}
			if id, ok := k.Run(); id != 0 || ok {
				t.Errorf("P10.1: until %d: Run: %d, %v", until, id, ok)
			}
			call{'k', tick, 0}.both(t, k, m)
			if k.Runnable() != (until <= tick) {
				t.Errorf("P10.1: until %d, Wake(%d): %v", until, tick, k.Runnable())
			}
			ended(t, fmt.Sprintf("until %d, Wake(%d)", until, tick), k, m)
		}
	}
}

// P10.1: who is due is told by number, whenever it came and whatever its time;
// the others sleep on.
func TestWake(t *testing.T) {
	var sleeps []call
	for range mostThreads - 1 {
		sleeps = append(sleeps, call{'p', 0, 1})
	}
	for at, id := range []int{6, 2, 8, 1, 3, 7, 5} {
		sleeps = append(sleeps, call{'s', id, []int{20, 30, 10, 20, 40, 10, 30}[at]})
	}
	k, m := made(t, 8, 0, sleeps...)
	ready(t, "but one asleep", k, 4)
	woken(t, k, 9)
	woken(t, k, 10, 7, 8)
	ready(t, "at 10", k, 4, 7, 8)
	woken(t, k, 10)
	woken(t, k, 0)
	woken(t, k, 35, 1, 2, 5, 6)
	ready(t, "at 35", k, 1, 2, 4, 5, 6, 7, 8)
	failed(t, "again", k.Sleep(8, 36), 0)
	woken(t, k, 40, 3, 8)
	woken(t, k, math.MaxInt)
	ready(t, "at 40", k, 1, 2, 3, 4, 5, 6, 7, 8)
	m.wake(40)
	ended(t, "woken", k, m)
}

// P10.1: who wakes, by time or by a signal, gets nothing of what it missed,
// keeps what it had ahead; a group likewise.
func TestPassOfWoken(t *testing.T) {
	k := kernel.New(3, 1)
	spawned(t, k, 0, 2, 2, 0)
	grouped(t, k, 0, 1, 3, 0)
	spawned(t, k, 3, 4, 4, 0)
	passes := func(what string, want ...int) {
		t.Helper()
		var got []int
		for _, n := range k.Nodes()[1:] {
			got = append(got, n.Pass)
		}
		if !slices.Equal(got, want) {
			t.Errorf("P10.1: %s: passes %v, want %v", what, got, want)
		}
	}
	failed(t, "asleep", k.Sleep(2, 5), 0)
	waited(t, k, 4, 3, false, 0)
	ran(t, "alone", k, 1, 1, 1)
	passes("alone", 3*whole, 0, 0, 0)
	woken(t, k, 5, 2)
	passes("woken", 3*whole, 2*whole, 0, 0)
	failed(t, "a signal", k.Signal(3), 0)
	passes("woken", 3*whole, 2*whole, 2*whole, 0)
	ran(t, "three", k, 2, 4, 2, 1, 2)
	passes("three", 4*whole, 2*whole+3*whole/2, 3*whole, whole/4)
	failed(t, "asleep again", k.Sleep(2, 6), 0)
	woken(t, k, 6, 2)
	passes("kept", 4*whole, 2*whole+3*whole/2, 3*whole, whole/4)
	ran(t, "kept", k, 4, 2, 1, 2, 4)
}

// P10.1: Wait of no such object: ErrForm, nothing is changed; of what isn't
// ready ErrNone comes ahead of it.
func TestNoSuchObject(t *testing.T) {
	for _, obj := range noObjects {
		k, m := adults(t, 8, 4)
		call{'n', 0, 0}.both(t, k, m)
		waited(t, k, 1, obj, false, api.ErrForm)
		failed(t, fmt.Sprintf("Signal(%d)", obj), k.Signal(obj), api.ErrForm)
		for _, id := range []int{0, 2, 5, 6, 7, 99} {
			waited(t, k, id, obj, false, api.ErrNone)
		}
		ready(t, "no such object", k, 1)
		ended(t, fmt.Sprintf("no such object: %d", obj), k, m)
	}
}

// P10.1: each object has its row: who waits first is ready first, and none by
// another one's signal.
func TestWait(t *testing.T) {
	for obj := range objects {
		for other := range objects {
			k, m := made(t, 4, 0, call{'p', 0, 1}, call{'p', 0, 1}, call{'p', 0, 1})
			for _, id := range []int{3, 1, 4} {
				waited(t, k, id, obj, false, 0)
				m.wait(id, obj)
			}
			ready(t, "three wait", k, 2)
			failed(t, "Signal", k.Signal(other), 0)
			m.signal(other)
			if other == obj {
				ready(t, "served", k, 2, 3)
				failed(t, "Signal", k.Signal(obj), 0)
				ready(t, "served", k, 1, 2, 3)
				waited(t, k, 3, obj, false, 0)
				failed(t, "Signal", k.Signal(obj), 0)
				ready(t, "served", k, 1, 2, 4)
				failed(t, "Signal", k.Signal(obj), 0)
				ready(t, "served", k, 1, 2, 3, 4)
				continue
			}
			ready(t, "another one's", k, 2)
			waited(t, k, 2, other, true, 0)
			ready(t, "another one's", k, 2)
			waited(t, k, 2, other, false, 0)
			ready(t, "all wait", k)
			m.wait(2, other)
			m.wait(2, other)
			ended(t, fmt.Sprintf("objects %d, %d", obj, other), k, m)
		}
	}
}

// P10.1: signals nobody waits for are counted, MaxCount at most; as many go
// on, ready as they were, and the next one waits.
func TestCount(t *testing.T) {
	for _, signals := range []int{0, 1, 2, 254, 255, 256, 257, 600} {
		k, m := made(t, 2, 0, call{'p', 0, 1})
		for range signals {
			call{'n', 2, 0}.both(t, k, m)
		}
		before := k.Nodes()
		for n := range min(signals, mostCount) {
			waited(t, k, 1+n%2, 2, true, 0)
		}
		if got := k.Nodes(); !slices.Equal(got, before) {
			t.Errorf("P10.1: %d signals, they go on: %v, want %v", signals, got, before)
		}
		waited(t, k, 1, 2, false, 0)
		ready(t, fmt.Sprintf("%d signals, all taken", signals), k, 2)
		waited(t, k, 2, 1, false, 0)
		ready(t, "both wait", k)
	}
}

// P10.1: who is gone was ready, slept or waited: nothing wakes it, and those
// behind it come up.
func TestExit(t *testing.T) {
	for gone := 1; gone <= 6; gone++ {
		k, m := made(t, 6, 1, call{'g', 0, 2})
		for range 5 {
			call{'p', 2, 3}.both(t, k, m)
		}
		for _, c := range []call{{'s', 1, 10}, {'s', 3, 10}, {'w', 4, 1}, {'w', 5, 1}, {'w', 6, 1}} {
			c.both(t, k, m)
		}
		call{'x', gone, 0}.both(t, k, m)
		call{'x', gone, 0}.both(t, k, m)
		stands(t, fmt.Sprintf("without %d", gone), k, m)
		call{'s', gone, 1}.both(t, k, m)
		call{'w', gone, 1}.both(t, k, m)
		call{'h', gone, 1}.both(t, k, m)
		call{'p', 0, 1}.both(t, k, m)
		call{'w', 8, 1}.both(t, k, m)
		ended(t, fmt.Sprintf("without %d, one more behind", gone), k, m)
	}
	k := kernel.New(2, 0)
	spawned(t, k, 0, 1, 2, 0)
	failed(t, "Sleep", k.Sleep(1, 3), 0)
	waited(t, k, 2, 0, false, 0)
	failed(t, "Exit", k.Exit(1), 0)
	failed(t, "Exit", k.Exit(2), 0)
	woken(t, k, math.MaxInt)
	failed(t, "Signal", k.Signal(0), 0)
	if got := k.Threads(); len(got) != 0 || k.Runnable() {
		t.Errorf("P10.1: nobody: Threads: %v, Runnable: %v", got, k.Runnable())
	}
	if got, want := k.Nodes(), []api.Node{{Parent: -1, Weight: 1}}; !slices.Equal(got, want) {
		t.Errorf("P10.1: nobody: Nodes: %v, want %v", got, want)
	}
	if id, ok := k.Run(); id != 0 || ok {
		t.Errorf("P10.1: nobody: Run: %d, %v", id, ok)
	}
	spawned(t, k, 0, 1, 3, 0)
	waited(t, k, 3, 0, true, 0)
	ran(t, "somebody again", k, 3)
}

// P10.1: Weight's errors, of both the first one; of a thread, whatever it does,
// and of a group the pass is by the group's now around it.
func TestWeight(t *testing.T) {
	k, m := adults(t, 8, 4)
	for _, weight := range noWeights {
		for _, id := range slices.Concat(wild, []int{0, 1, 2, 4, 5, 6, 7, 8}) {
			failed(t, fmt.Sprintf("Weight(%d, %d)", id, weight), k.Weight(id, weight), api.ErrForm)
		}
	}
	for weight := 1; weight <= 16; weight++ {
		for _, id := range slices.Concat(wild, []int{0, 7, 8}) {
			failed(t, fmt.Sprintf("Weight(%d, %d)", id, weight), k.Weight(id, weight), api.ErrNone)
		}
	}
	stands(t, "refused", k, m)
	for weight := 16; weight >= 1; weight-- {
		for _, id := range []int{1, 2, 3, 4, 5, 6} {
			call{'h', id, weight}.both(t, k, m)
			stands(t, fmt.Sprintf("Weight(%d, %d)", id, weight), k, m)
		}
		call{'r', 0, 0}.both(t, k, m)
	}
	ended(t, "weighed", k, m)
	k = kernel.New(2, 0)
	spawned(t, k, 0, 1, 2, 0)
	ran(t, "alike", k, 1, 2, 1)
	failed(t, "Weight(1, 4)", k.Weight(1, 4), 0)
	if n := k.Nodes()[1]; n.Weight != 4 || n.Pass != whole+whole/4 {
		t.Errorf("P10.1: Weight(1, 4): %v", n)
	}
	ran(t, "four times", k, 2, 1, 1, 1, 1, 2, 1, 1, 1, 1)
}

// P10.1: Run is the tree's: each gets what it weighs, a group's what it gets.
func TestRun(t *testing.T) {
	k := kernel.New(4, 1)
	grouped(t, k, 0, 3, 2, 0)
	spawned(t, k, 2, 1, 3, 0)
	spawned(t, k, 2, 2, 4, 0)
	counts := map[int]int{}
	for range 4 * 300 {
		id, ok := k.Run()
		if !ok {
			t.Fatal("P10.1: Run: none is ready")
		}
		counts[id]++
	}
	if want := map[int]int{1: 300, 3: 300, 4: 600}; !maps.Equal(counts, want) {
		t.Errorf("P10.1: quanta %v, want %v", counts, want)
	}
	for _, n := range k.Nodes() {
		if n.Pass > api.MaxPass+2*whole {
			t.Errorf("P10.1: a pass that isn't counted anew: %v", n)
		}
	}
}

// What Wake, Threads and Nodes answer is the caller's: whatever is done with
// it, with the room behind it too, or with the Kernel later, neither sees
// anything of the other.
func TestAnswersApart(t *testing.T) {
	k, m := made(t, 5, 1, call{'g', 0, 1}, call{'p', 2, 1}, call{'p', 0, 1}, call{'p', 0, 1}, call{'s', 1, 1}, call{'s', 4, 2}, call{'s', 3, 3}, call{'s', 5, 9})
	due, threads, nodes := k.Wake(3), k.Threads(), k.Nodes()
	m.wake(3)
	keptDue, keptThreads, keptNodes := slices.Clone(due), slices.Clone(threads), slices.Clone(nodes)
	overwritten := func(due, threads []int, nodes []api.Node) {
		for at := range due[:cap(due)] {
			due[:cap(due)][at] = -99
		}
		for at := range threads[:cap(threads)] {
			threads[:cap(threads)][at] = -98
		}
		for at := range nodes[:cap(nodes)] {
			nodes[:cap(nodes)][at] = api.Node{ID: -97}
		}
	}
	overwritten(nil, k.Threads(), k.Nodes())
	stands(t, "answers were overwritten", k, m)
	for _, c := range []call{{'s', 1, 1}, {'s', 3, 1}, {'x', 4, 0}, {'p', 0, 7}, {'r', 0, 0}, {'h', 2, 5}, {'k', 2, 0}, {'k', 20, 0}} {
		c.both(t, k, m)
	}
	if !slices.Equal(due, keptDue) || !slices.Equal(threads, keptThreads) || !slices.Equal(nodes, keptNodes) {
		t.Errorf("P10.1: answers changed by later calls: %v, %v, %v", due, threads, nodes)
	}
	overwritten(due, threads, nodes)
	ended(t, "answers were overwritten", k, m)
}

// P10.2: what one domain's Kernel does, no other one sees.
func TestByItself(t *testing.T) {
	for seed := range int64(20) {
		dice := rand.New(rand.NewSource(seed))
		k, m := made(t, 4, 2)
		other, om := made(t, 8, 4)
		for at := range 400 {
			diced(dice, m).both(t, k, m)
			for range dice.Intn(4) {
				diced(dice, om).both(t, other, om)
			}
			what := fmt.Sprintf("P10.2: seed %d, %d", seed, at)
			stands(t, what, k, m)
			stands(t, what, other, om)
		}
		ended(t, fmt.Sprintf("P10.2: seed %d, another one", seed), other, om)
		ended(t, fmt.Sprintf("P10.2: seed %d, one", seed), k, m)
	}
}

// diced is a call at random, mostly of who is there.
func diced(dice *rand.Rand, m *model) call {
	id := dice.Intn(m.next + 1)
	if len(m.threads) > 0 && dice.Intn(4) > 0 {
		id = m.threads[dice.Intn(len(m.threads))]
	}
	group := m.groups[dice.Intn(len(m.groups))]
	if dice.Intn(8) == 0 {
		group = id
	}
	weight := dice.Intn(18)
	switch op := "ppgxsswwwnnnhkkrrrrr"[dice.Intn(20)]; op {
	case 'p', 'g':
		return call{op, group, weight}
	case 'h':
		return call{op, []int{id, group}[dice.Intn(2)], weight}
	case 's':
		return call{op, id, dice.Intn(20)}
	case 'w':
		return call{op, id, dice.Intn(objects+2) - 1}
	case 'n':
		return call{op, dice.Intn(objects+2) - 1, 0}
	case 'k':
		return call{op, dice.Intn(20), 0}
	default:
		return call{op, id, 0}
	}
}

// P10.1: each row of a few calls, against the model.
func TestEachRow(t *testing.T) {
	calls := []call{{'p', 0, 2}, {'p', 2, 1}, {'g', 0, 1}, {'g', 2, 1}, {'n', 0, 0}, {'k', 1, 0}, {'r', 0, 0}}
	for id := 1; id <= 3; id++ {
		calls = append(calls, call{'x', id, 0}, call{'s', id, id % 2}, call{'w', id, 0}, call{'h', id, 3})
	}
	var rows func(chosen []call, left int)
	rows = func(chosen []call, left int) {
		k, m := made(t, 2, 2, chosen...)
		ended(t, fmt.Sprint(chosen), k, m)
		if left == 0 || t.Failed() {
			return
		}
		for _, c := range calls {
			rows(append(slices.Clone(chosen), c), left-1)
		}
	}
	rows(nil, 3)
}

// P10.1: long rows of calls at random, with any quotas.
func TestLongRows(t *testing.T) {
	for seed := range int64(90) {
		dice := rand.New(rand.NewSource(seed))
		k, m := made(t, int(seed%10), int(seed%7)-1)
		for at := range 800 {
			c := diced(dice, m)
			c.both(t, k, m)
			stands(t, fmt.Sprintf("seed %d, %d: %v", seed, at, c), k, m)
			if t.Failed() {
				t.FailNow()
			}
		}
		ended(t, fmt.Sprintf("seed %d", seed), k, m)
	}
}

// A Kernel that New didn't make has nobody, and none of its calls panics.
func TestNotMadeByNew(t *testing.T) {
	var k kernel.Kernel
	for _, id := range slices.Concat(wild, []int{0, 1, 2}) {
		spawned(t, &k, id, 1, 0, api.ErrNone)
		grouped(t, &k, id, 1, 0, api.ErrNone)
		failed(t, "Exit", k.Exit(id), api.ErrNone)
		failed(t, "Sleep", k.Sleep(id, 1), api.ErrNone)
		failed(t, "Weight", k.Weight(id, 1), api.ErrNone)
		waited(t, &k, id, 0, false, api.ErrNone)
		woken(t, &k, id)
	}
	failed(t, "Signal", k.Signal(0), 0)
	if id, ok := k.Run(); id != 0 || ok || k.Runnable() || len(k.Threads()) != 0 || len(k.Nodes()) != 0 {
		t.Errorf("P10.1: not made by New: %d, %v, %v, %v", id, ok, k.Threads(), k.Nodes())
	}
}

func Example() {
	k := kernel.New(3, 1)
	fmt.Println(k.Spawn(0, 2))
	fmt.Println(k.Run())
	fmt.Println(k.Sleep(1, 10))
	fmt.Println(k.Wait(2, 0))
	fmt.Println(k.Runnable())
	fmt.Println(k.Signal(0))
	fmt.Println(k.Run())
	fmt.Println(k.Wake(10), k.Threads())
	fmt.Println(k.Exit(2), k.Exit(2))
	// Output:
	// 2 <nil>
	// 1 true
	// <nil>
	// false <nil>
	// false
	// <nil>
	// 2 true
	// [1] [1 2]
	// <nil> error 13
}
