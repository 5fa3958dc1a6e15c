package latch_test

import (
	"errors"
	"math"
	"math/rand"
	"slices"
	"testing"

	"tontine/api"
	"tontine/conf"
	"tontine/latch"
)

const (
	mostPlans   = 3
	mostDomains = 6
	mostLevels  = 4
	nobody      = -1
)

// wild are numbers at which a number might go wrong.
var wild = []int{
	math.MinInt, math.MinInt + 1, -1 << 40, -1 << 32, -1<<31 - 1, -1 << 31, -257, -256, -255, -6, -5, -4, -3, -2, -1,
	7, 64, 255, 256, 257, 1<<31 - 1, 1 << 31, 1<<32 - 1, 1 << 32, 1<<32 + 1, 1<<32 + 2, 1 << 40, math.MaxInt - 1, math.MaxInt,
}

// few has that many plans, and a domain for each number of amounts; each gives
// to the first one, which gives nothing.
func few(plans int, amounts ...int) api.Conf {
	c := api.Conf{Frame: 6, Epoch: 1, Plans: make([][]int, plans)}
	for at := range c.Plans {
		c.Plans[at] = slices.Repeat([]int{1}, 1+len(amounts))
	}
	c.Domains = []api.Domain{{To: nobody, Threads: 1, Ring: 1, Box: 1}}
	for _, many := range amounts {
		d := api.Domain{Label: api.Label{Level: 1}, To: nobody, Threads: 1, Ring: 1, Box: 1}
		for nth := range many {
			d.To, d.Release = 0, append(d.Release, (nth+3)%(c.Frame+1))
		}
		c.Domains = append(c.Domains, d)
	}
	return c
}

// full has something in each of its parts: three that rise; two plans; the
// middle one has two levels, the last one four.
func full() api.Conf {
	c := few(2, 2, 4)
	c.Epoch, c.Plans = 3, [][]int{{5, 3, 2}, {0, 1, 1}}
	c.Domains[0].Routes = [][]int{{1, 2}, {2}}
	c.Domains[1].Routes = [][]int{{2}}
	c.Domains[2].To = 1
	for at := range c.Domains {
		d := &c.Domains[at]
		d.Label = api.Label{Level: at, Cats: 1<<at - 1}
		d.Threads, d.Groups, d.Ring, d.Sends, d.Box = 8, 4, 16, 8, 8
	}
	return c
}

// twice is one and the same conf in memory of its own.
func twice(c api.Conf) api.Conf {
	c.Plans = rows(c.Plans)
	c.Domains = slices.Clone(c.Domains)
	for at := range c.Domains {
		c.Domains[at].Routes = rows(c.Domains[at].Routes)
		c.Domains[at].Release = slices.Clone(c.Domains[at].Release)
	}
	return c
}

func rows(of [][]int) [][]int {
	out := slices.Clone(of)
	for at := range out {
		out[at] = slices.Clone(out[at])
	}
	return out
}

// spoils gives ways to bring full to each of conf's cases.
func spoils() map[string]func(c *api.Conf) {
	return map[string]func(c *api.Conf){
		"no frame":              func(c *api.Conf) { c.Frame = 0 },
		"a frame far too long":  func(c *api.Conf) { c.Frame = math.MaxInt },
		"an epoch of 9":         func(c *api.Conf) { c.Epoch = 9 },
		"no domains":            func(c *api.Conf) { c.Domains = nil },
		"a domain fewer":        func(c *api.Conf) { c.Domains = c.Domains[:2] },
		"a domain more":         func(c *api.Conf) { c.Domains = append(c.Domains, c.Domains[0]) },
		"seven domains":         func(c *api.Conf) { *c = few(2, 0, 0, 0, 0, 0, 4) },
		"far too many domains":  func(c *api.Conf) { *c = few(2, make([]int, 300)...) },
		"a label above 255":     func(c *api.Conf) { c.Domains[2].Label.Level = 256 },
		"no plans":              func(c *api.Conf) { c.Plans = nil },
		"four plans":            func(c *api.Conf) { c.Plans = slices.Repeat(c.Plans, 2) },
		"a plan too short":      func(c *api.Conf) { c.Plans[1] = []int{1, 1} },
		"a plan of nothing":     func(c *api.Conf) { c.Plans[1] = []int{0, 0, 0} },
		"no threads":            func(c *api.Conf) { c.Domains[0].Threads = 0 },
		"no ring":               func(c *api.Conf) { c.Domains[2].Ring = 0 },
		"no box":                func(c *api.Conf) { c.Domains[0].Box = 0 },
		"a route of nobody":     func(c *api.Conf) { c.Domains[1].Routes = [][]int{nil} },
		"a route that falls":    func(c *api.Conf) { c.Domains[1].Routes = [][]int{{0}} },
		"amounts to nobody":     func(c *api.Conf) { c.Domains[2].To = nobody },
		"amounts to itself":     func(c *api.Conf) { c.Domains[2].To = 2 },
		"amounts upward":        func(c *api.Conf) { c.Domains[0].To, c.Domains[0].Release = 1, []int{1} },
		"no amounts of another": func(c *api.Conf) { c.Domains[1].Release = nil },
		"five amounts":          func(c *api.Conf) { c.Domains[2].Release = []int{0, 1, 6, 2, 0} },
		"all of it zero":        func(c *api.Conf) { *c = api.Conf{} },
	}
}

// model is the chapter's Latch, as plainly as may be: all that was ever asked
// for and may be, in order, with the Turns in between.
type model struct {
	c    api.Conf
	said []saying
}

// saying is one that takes: of the plan (p), of d's level (l), a Turn (t).
type saying struct {
	op      byte
	d, what int
}

func (m *model) askPlan(i int) api.Errno {
	for plan := range m.c.Plans {
		if plan == i {
			m.said = append(m.said, saying{'p', 0, i})
			return 0
		}
	}
	return api.ErrForm
}

func (m *model) askLevel(d, level int) api.Errno {
	code := api.ErrNone
	for at, domain := range m.c.Domains {
		if at == d {
			code = api.ErrForm
			for nth := range domain.Release {
				if nth == level {
					m.said = append(m.said, saying{'l', d, level})
					return 0
				}
			}
		}
	}
	return code
}

func (m *model) turn() {
	m.said = append(m.said, saying{op: 't'})
}

// last tells what was asked for last, ahead of the last Turn.
func (m *model) last(op byte, d int) int {
	turned := false
	for _, s := range slices.Backward(m.said) {
		turned = turned || s.op == 't'
		if turned && s.op == op && s.d == d {
			return s.what
		}
	}
	return 0
}

func (m *model) levels() []int {
	var levels []int
	for d := range m.c.Domains {
		levels = append(levels, m.last('l', d))
	}
	return levels
}

// both are a Latch and its model, that are told the same.
type both struct {
	t     *testing.T
	latch *latch.Latch
	model *model
}

func newBoth(t *testing.T, c api.Conf) *both {
	b := &both{t, latch.New(c), &model{c: twice(c)}}
	b.alike("new")
	return b
}

// alike holds what the one tells against what the other one does.
func (b *both) alike(after string) {
	b.t.Helper()
	holds(b.t, after, b.latch, b.model.last('p', 0), b.model.levels())
}

func (b *both) askPlan(i int) {
	b.t.Helper()
	failed(b.t, "AskPlan", b.latch.AskPlan(i), b.model.askPlan(i))
	b.alike("AskPlan")
}

func (b *both) askLevel(d, level int) {
	b.t.Helper()
	failed(b.t, "AskLevel", b.latch.AskLevel(d, level), b.model.askLevel(d, level))
	b.alike("AskLevel")
}

func (b *both) turn() {
	b.t.Helper()
	b.latch.Turn()
	b.model.turn()
	b.alike("Turn")
}

// failed holds an error against the number that is asked for, 0 of none.
func failed(t *testing.T, what string, err error, want api.Errno) {
	t.Helper()
	if want == 0 && err == nil {
		return
	}
	var got api.Errno
	if want == 0 || !errors.As(err, &got) || got != want || !errors.Is(err, want) {
		t.Errorf("P15.1: %s: error %v, want %d", what, err, int(want))
	}
}

func holds(t *testing.T, after string, l *latch.Latch, plan int, levels []int) {
	t.Helper()
	if gotPlan, gotLevels := l.Plan(), l.Levels(); gotPlan != plan || !slices.Equal(gotLevels, levels) {
		t.Errorf("P15.1: after %s there hold %d, %v, want %d, %v", after, gotPlan, gotLevels, plan, levels)
	}
}

// asked asks for both, that there must be.
func asked(t *testing.T, l *latch.Latch, plan, d, level int) {
	t.Helper()
	failed(t, "AskPlan", l.AskPlan(plan), 0)
	failed(t, "AskLevel", l.AskLevel(d, level), 0)
}

// random gives a conf that may be, of any number of plans, domains, levels.
func random(from *rand.Rand) api.Conf {
	amounts := make([]int, from.Intn(mostDomains))
	for at := range amounts {
		amounts[at] = from.Intn(mostLevels + 1)
	}
	return few(1+from.Intn(mostPlans), amounts...)
}

// P15.1: plan 0, all levels 0 at first, of as many as there are domains,
// whether they have amounts or not, and until something is asked for.
func TestNew(t *testing.T) {
	for plans := 1; plans <= mostPlans; plans++ {
		for domains := 1; domains <= mostDomains; domains++ {
			for amounts := range mostLevels + 1 {
				l := latch.New(few(plans, slices.Repeat([]int{amounts}, domains-1)...))
				for range 3 {
					holds(t, "New", l, 0, make([]int, domains))
					l.Turn()
				}
			}
		}
	}
}

// P15.1: each configuration that the others are made from is as it may be, at
// the limits too.
func TestMay(t *testing.T) {
	for _, c := range []api.Conf{full(), few(1), few(mostPlans, 0, 1, 2, 3, 4), few(1, 4, 4, 4, 4, 4)} {
		if err := conf.Is(c); err != nil {
			t.Errorf("P15.1: %v: %v", c, err)
		}
	}
	from := rand.New(rand.NewSource(15))
	for range 200 {
		if c := random(from); conf.Is(c) != nil {
			t.Errorf("P15.1: %v: %v", c, conf.Is(c))
		}
	}
}

// P15.1: each plan that there is can be asked for and holds from the next Turn
// on, no other one.
func TestAskPlan(t *testing.T) {
	for plans := 1; plans <= mostPlans; plans++ {
		for _, i := range append([]int{0, 1, 2, 3, 4, 5}, wild...) {
			l := latch.New(few(plans, 2))
			want := 0
			if i >= 0 && i < plans {
				failed(t, "AskPlan", l.AskPlan(i), 0)
				want = i
			} else {
				failed(t, "AskPlan of none", l.AskPlan(i), api.ErrForm)
			}
			holds(t, "AskPlan", l, 0, []int{0, 0})
			l.Turn()
			holds(t, "Turn", l, want, []int{0, 0})
		}
	}
}

// P15.1: each level that there is can be asked for and holds from the next
// Turn on, of that domain alone; no other one.
func TestAskLevel(t *testing.T) {
	for amounts := range mostLevels + 1 {
		for d := 1; d < mostDomains; d++ {
			others := []int{4, 4, 4, 4, 4}
			others[d-1] = amounts
			for _, level := range append([]int{0, 1, 2, 3, 4, 5, 6}, wild...) {
				l := latch.New(few(1, others...))
				want := make([]int, mostDomains)
				if level >= 0 && level < amounts {
					failed(t, "AskLevel", l.AskLevel(d, level), 0)
					want[d] = level
				} else {
					failed(t, "AskLevel of no level", l.AskLevel(d, level), api.ErrForm)
				}
				holds(t, "AskLevel", l, 0, make([]int, mostDomains))
				l.Turn()
				holds(t, "Turn", l, 0, want)
			}
		}
	}
}

// P15.1: who gives nothing away has no level, not even the one that holds.
func TestAskLevelOfWhoGivesNothing(t *testing.T) {
	l := latch.New(few(3, 0, 4))
	for _, d := range []int{0, 1} {
		for _, level := range append([]int{0, 1, 2, 3, 4}, wild...) {
			failed(t, "AskLevel of who gives nothing", l.AskLevel(d, level), api.ErrForm)
		}
	}
	l.Turn()
	holds(t, "Turn", l, 0, []int{0, 0, 0})
}

// P15.1: of no such domain there is ErrNone, whatever the level.
func TestAskLevelOfNobody(t *testing.T) {
	for domains := 1; domains <= mostDomains; domains++ {
		l := latch.New(few(3, slices.Repeat([]int{4}, domains-1)...))
		for _, d := range append([]int{domains, domains + 1, 7}, wild...) {
			for _, level := range append([]int{0, 1, 2, 3, 4, 5}, wild...) {
				failed(t, "AskLevel of nobody", l.AskLevel(d, level), api.ErrNone)
			}
		}
		l.Turn()
		holds(t, "Turn", l, 0, make([]int, domains))
	}
}

// P15.1: a level is a place among the amounts, whatever they are.
func TestLevelIsNoAmount(t *testing.T) {
	c := full()
	c.Domains[1].Release, c.Domains[2].Release = []int{6, 6}, []int{5, 0, 0}
	l := latch.New(c)
	for _, level := range []int{3, 4, 5, 6} {
		failed(t, "AskLevel of an amount", l.AskLevel(1, level), api.ErrForm)
		failed(t, "AskLevel of an amount", l.AskLevel(2, level), api.ErrForm)
	}
	failed(t, "AskLevel", l.AskLevel(1, 1), 0)
	failed(t, "AskLevel", l.AskLevel(2, 2), 0)
	l.Turn()
	holds(t, "Turn", l, 0, []int{0, 1, 2})
}

// P15.1: worked out by hand, Turn by Turn.
func TestByHand(t *testing.T) {
	l := latch.New(full())
	asked(t, l, 1, 2, 3)
	holds(t, "asking", l, 0, []int{0, 0, 0})
	l.Turn()
	holds(t, "Turn", l, 1, []int{0, 0, 3})
	failed(t, "AskLevel", l.AskLevel(1, 1), 0)
	holds(t, "asking", l, 1, []int{0, 0, 3})
	l.Turn()
	holds(t, "a second Turn", l, 1, []int{0, 1, 3})
	failed(t, "AskPlan", l.AskPlan(0), 0)
	l.Turn()
	holds(t, "a third Turn", l, 0, []int{0, 1, 3})
	failed(t, "AskLevel", l.AskLevel(2, 0), 0)
	failed(t, "AskLevel", l.AskLevel(1, 0), 0)
	holds(t, "asking", l, 0, []int{0, 1, 3})
	l.Turn()
	holds(t, "a fourth Turn", l, 0, []int{0, 0, 0})
}

// P15.1: what was asked for last holds, not the first, the least or the
// greatest; it may be what holds already.
func TestLast(t *testing.T) {
	for _, first := range []int{0, 1, 2} {
		for _, then := range []int{0, 1, 2} {
			for _, last := range []int{0, 1, 2} {
				l := latch.New(few(3, 3, 3))
				asked(t, l, first, 2, first)
				l.Turn()
				holds(t, "Turn", l, first, []int{0, 0, first})
				asked(t, l, then, 2, then)
				asked(t, l, last, 2, last)
				holds(t, "asking twice", l, first, []int{0, 0, first})
				l.Turn()
				holds(t, "a second Turn", l, last, []int{0, 0, last})
				l.Turn()
				holds(t, "a third Turn", l, last, []int{0, 0, last})
			}
		}
	}
}

// P15.1: what was asked for holds on, Turn after Turn, until something else
// was.
func TestHoldsOn(t *testing.T) {
	l := latch.New(full())
	asked(t, l, 1, 2, 2)
	for range 100 {
		l.Turn()
		holds(t, "a Turn", l, 1, []int{0, 0, 2})
	}
	failed(t, "AskLevel", l.AskLevel(1, 1), 0)
	for range 100 {
		l.Turn()
		holds(t, "a Turn", l, 1, []int{0, 1, 2})
	}
}

// P15.1: what is refused isn't asked for: what was, ahead of it, holds.
func TestRefused(t *testing.T) {
	l := latch.New(full())
	asked(t, l, 1, 2, 3)
	refused := func() {
		for _, n := range append([]int{4, 5, 6}, wild...) {
			failed(t, "AskPlan of none", l.AskPlan(n), api.ErrForm)
			failed(t, "AskLevel of nobody", l.AskLevel(n, 1), api.ErrNone)
			failed(t, "AskLevel of nobody, no level", l.AskLevel(n, n), api.ErrNone)
			for d := range 3 {
				failed(t, "AskLevel of no level", l.AskLevel(d, n), api.ErrForm)
			}
		}
	}
	refused()
	holds(t, "what was refused", l, 0, []int{0, 0, 0})
	l.Turn()
	holds(t, "Turn", l, 1, []int{0, 0, 3})
	refused()
	holds(t, "what was refused", l, 1, []int{0, 0, 3})
	l.Turn()
	holds(t, "a second Turn", l, 1, []int{0, 0, 3})
}

// P15.1: no domain's level hangs on another one's, none on the plan, and it
// doesn't hang on which was asked for first.
func TestEachApart(t *testing.T) {
	orders := [][]int{{0, 1, 2, 3, 4, 5}, {5, 4, 3, 2, 1, 0}, {3, 0, 5, 1, 4, 2}}
	for _, order := range orders {
		l := latch.New(few(3, 4, 4, 4, 4, 4))
		want := []int{0, 3, 1, 2, 0, 1}
		for _, d := range order {
			if d == 0 {
				failed(t, "AskPlan", l.AskPlan(2), 0)
			} else {
				failed(t, "AskLevel", l.AskLevel(d, want[d]), 0)
			}
		}
		l.Turn()
		holds(t, "all", l, 2, want)
		for _, d := range order {
			if d == 0 {
				continue
			}
			want[d] = 3 - want[d]
			failed(t, "AskLevel", l.AskLevel(d, want[d]), 0)
			l.Turn()
			holds(t, "one", l, 2, want)
		}
		failed(t, "AskPlan", l.AskPlan(1), 0)
		l.Turn()
		holds(t, "the plan", l, 1, want)
	}
}

// P15.1: each row of up to four calls, of two plans, and of two that have two
// levels each.
func TestShortRows(t *testing.T) {
	calls := []func(b *both){
		func(b *both) { b.turn() },
		func(b *both) { b.askPlan(0) },
		func(b *both) { b.askPlan(1) },
		func(b *both) { b.askPlan(2) },
		func(b *both) { b.askLevel(0, 0) },
		func(b *both) { b.askLevel(1, 0) },
		func(b *both) { b.askLevel(1, 1) },
		func(b *both) { b.askLevel(2, 0) },
		func(b *both) { b.askLevel(2, 1) },
		func(b *both) { b.askLevel(2, 2) },
		func(b *both) { b.askLevel(3, 0) },
	}
	const length = 4
	row := make([]int, length)
	for !t.Failed() {
		b := newBoth(t, few(2, 2, 2))
		for _, call := range row {
			calls[call](b)
		}
		b.turn()
		at := 0
		for at < length && row[at] == len(calls)-1 {
			row[at] = 0
			at++
		}
		if at == length {
			break
		}
		row[at]++
	}
}

// P15.1: long rows of calls at random.
func TestLongRows(t *testing.T) {
	from := rand.New(rand.NewSource(151))
	some := func(most int) int {
		if from.Intn(10) == 0 {
			return wild[from.Intn(len(wild))]
		}
		return from.Intn(most+2) - 1
	}
	for range 300 {
		b := newBoth(t, random(from))
		for range 200 {
			switch from.Intn(6) {
			case 0:
				b.turn()
			case 1:
				b.askPlan(some(mostPlans))
			default:
				b.askLevel(some(mostDomains), some(mostLevels))
			}
		}
	}
}

// P15.2: nothing changes within an epoch, whatever is asked for; Plan and
// Levels, asked between, change nothing of what comes.
func TestWithinAnEpoch(t *testing.T) {
	from := rand.New(rand.NewSource(152))
	for range 200 {
		c := random(from)
		l, quiet := latch.New(c), latch.New(c)
		for range 20 {
			plan, levels := l.Plan(), l.Levels()
			for range from.Intn(30) {
				i, d, level := from.Intn(mostPlans+2)-1, from.Intn(mostDomains+2)-1, from.Intn(mostLevels+2)-1
				failed(t, "AskPlan, told nothing in between", quiet.AskPlan(i), code(l.AskPlan(i)))
				failed(t, "AskLevel, told nothing in between", quiet.AskLevel(d, level), code(l.AskLevel(d, level)))
				if l.Plan() != plan || !slices.Equal(l.Levels(), levels) {
					t.Errorf("P15.2: %d, %v within an epoch of %d, %v", l.Plan(), l.Levels(), plan, levels)
				}
			}
			l.Turn()
			quiet.Turn()
		}
		if l.Plan() != quiet.Plan() || !slices.Equal(l.Levels(), quiet.Levels()) {
			t.Errorf("P15.2: %d, %v, as it was told in between, and %d, %v, as it wasn't", l.Plan(), l.Levels(), quiet.Plan(), quiet.Levels())
		}
	}
}

// code tells the number of an error, 0 of none.
func code(err error) api.Errno {
	var number api.Errno
	if err != nil {
		errors.As(err, &number)
	}
	return number
}

// P15.1: of what isn't as it may be nothing is promised, but that all calls
// end and none panics.
func TestMayNot(t *testing.T) {
	for what, spoil := range spoils() {
		c := full()
		spoil(&c)
		if conf.Is(c) == nil {
			t.Errorf("P15.1: %s: it is as it may be", what)
		}
		l := latch.New(c)
		for _, n := range append([]int{0, 1, 2, 3, 4, 5, 6}, wild...) {
			l.AskPlan(n)
			for _, level := range append([]int{0, 1, 2, 3, 4, 5}, wild...) {
				l.AskLevel(n, level)
			}
			l.Turn()
			l.Plan()
			l.Levels()
		}
	}
}

// P15.1: what there is to be asked for hangs on how many plans, domains and
// amounts there are, and on nothing else of the conf.
func TestNothingElse(t *testing.T) {
	for what, change := range map[string]func(c *api.Conf){
		"nothing":       func(c *api.Conf) {},
		"another frame": func(c *api.Conf) { c.Frame = 64 },
		"another epoch": func(c *api.Conf) { c.Epoch = 8 },
		"other plans":   func(c *api.Conf) { c.Plans = [][]int{{1000, 0, 7}, {0, 0, 1}} },
		"no routes":     func(c *api.Conf) { c.Domains[0].Routes, c.Domains[1].Routes = nil, nil },
		"other labels":  func(c *api.Conf) { c.Domains[2].Label = api.Label{Level: 255, Cats: math.MaxUint64} },
		"other quotas":  func(c *api.Conf) { c.Domains[1].Threads, c.Domains[1].Groups, c.Domains[1].Ring = 1, 0, 1 },
		"other amounts": func(c *api.Conf) { c.Domains[2].Release = []int{6, 6, 6, 6} },
		"to another":    func(c *api.Conf) { c.Domains[2].To = 0 },
	} {
		c := full()
		change(&c)
		if conf.Is(c) != nil {
			t.Errorf("P15.1: %s: %v", what, conf.Is(c))
		}
		l := latch.New(c)
		failed(t, what, l.AskPlan(2), api.ErrForm)
		failed(t, what, l.AskLevel(0, 0), api.ErrForm)
		failed(t, what, l.AskLevel(1, 2), api.ErrForm)
		failed(t, what, l.AskLevel(2, 4), api.ErrForm)
		failed(t, what, l.AskLevel(3, 0), api.ErrNone)
		asked(t, l, 1, 1, 1)
		asked(t, l, 1, 2, 3)
		l.Turn()
		holds(t, what, l, 1, []int{0, 1, 3})
	}
}

// P15.1: what is handed in is left as it is, spare room too.
func TestLeftAsItIs(t *testing.T) {
	c := full()
	amounts, plans := []int{0, 1, 6, 2, 77, 78}, [][]int{{5, 3, 2}, {0, 1, 1}, {77}}
	domains := append(c.Domains, api.Domain{To: 77})
	c.Domains, c.Plans = domains[:3], plans[:2]
	c.Domains[2].Release = amounts[:4]
	was := twice(c)
	l := latch.New(c)
	for n := -1; n < 6; n++ {
		l.AskPlan(n)
		for level := -1; level < 6; level++ {
			l.AskLevel(n, level)
		}
		l.Turn()
		spoil(l.Levels())
	}
	if !slices.Equal(amounts, []int{0, 1, 6, 2, 77, 78}) || !slices.Equal(plans[2], []int{77}) || domains[3].To != 77 {
		t.Errorf("P15.1: amounts %v, plans %v, domains %v", amounts, plans, domains)
	}
	if !conf.Same(c, was) {
		t.Errorf("P15.1: %v, was %v", c, was)
	}
}

// P15.1: what becomes later of what was handed in changes nothing.
func TestKeepsNothing(t *testing.T) {
	for what, change := range spoils() {
		c := full()
		l := latch.New(c)
		asked(t, l, 1, 2, 3)
		change(&c)
		for at := range c.Plans {
			c.Plans[at] = nil
		}
		for at := range c.Domains {
			c.Domains[at] = api.Domain{Release: []int{1, 2, 3, 4, 5, 6}}
		}
		failed(t, what, l.AskPlan(2), api.ErrForm)
		failed(t, what, l.AskLevel(0, 0), api.ErrForm)
		failed(t, what, l.AskLevel(1, 2), api.ErrForm)
		failed(t, what, l.AskLevel(2, 4), api.ErrForm)
		failed(t, what, l.AskLevel(3, 0), api.ErrNone)
		l.Turn()
		holds(t, what, l, 1, []int{0, 0, 3})
		asked(t, l, 1, 1, 1)
		l.Turn()
		holds(t, what, l, 1, []int{0, 1, 3})
	}
}

// P15.1: answers are new memory, their spare room too.
func TestAnswersApart(t *testing.T) {
	l := latch.New(full())
	asked(t, l, 1, 2, 3)
	l.Turn()
	one, other := l.Levels(), l.Levels()
	asked(t, l, 1, 1, 1)
	spoil(one)
	holds(t, "an answer was written to", l, 1, []int{0, 0, 3})
	l.Turn()
	holds(t, "Turn", l, 1, []int{0, 1, 3})
	if !slices.Equal(other, []int{0, 0, 3}) {
		t.Errorf("P15.1: an earlier answer is %v", other)
	}
	spoil(other)
	l.Turn()
	holds(t, "a second Turn", l, 1, []int{0, 1, 3})
}

// spoil writes to a list, and to its spare room.
func spoil(list []int) {
	list = list[:cap(list)]
	for at := range list {
		list[at] = 99
	}
}

// P15.1: two Latches of one conf know nothing of one another.
func TestSideBySide(t *testing.T) {
	c := full()
	one, other := latch.New(c), latch.New(c)
	asked(t, one, 1, 2, 3)
	other.Turn()
	holds(t, "the other one's Turn", one, 0, []int{0, 0, 0})
	asked(t, other, 1, 1, 1)
	one.Turn()
	holds(t, "its own Turn", one, 1, []int{0, 0, 3})
	holds(t, "the other one's Turn", other, 0, []int{0, 0, 0})
	other.Turn()
	holds(t, "its own Turn", other, 1, []int{0, 1, 0})
	holds(t, "the other one's second Turn", one, 1, []int{0, 0, 3})
	holds(t, "New", latch.New(c), 0, []int{0, 0, 0})
}
