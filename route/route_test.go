package route_test

import (
	"math"
	"math/rand"
	"slices"
	"testing"

	"tontine/api"
	"tontine/conf"
	"tontine/label"
	"tontine/route"
)

const (
	mostDomains = 6
	mostRoutes  = 3
	nobody      = -1
)

// wild are numbers at which a number might go wrong.
var wild = []int{
	math.MinInt, math.MinInt + 1, -1 << 40, -1 << 32, -1<<31 - 1, -1 << 31, -257, -256, -255, -6, -5, -4, -3, -2, -1,
	7, 64, 255, 256, 257, 1<<31 - 1, 1 << 31, 1<<32 - 1, 1 << 32, 1<<32 + 1, 1<<32 + 2, 1 << 40, math.MaxInt - 1, math.MaxInt,
}

// rising has a domain for each list of routes, each one above the one ahead.
func rising(routes ...[][]int) api.Conf {
	c := api.Conf{Frame: 4, Epoch: 2, Plans: [][]int{slices.Repeat([]int{1}, len(routes))}}
	for at, of := range routes {
		c.Domains = append(c.Domains, api.Domain{
			Label: api.Label{Level: at}, Routes: of, To: nobody, Threads: 1, Ring: 1, Box: 1,
		})
	}
	return c
}

// full has something in each of its parts; of its four the first has three
// routes, the second two, the third one, the last none.
func full() api.Conf {
	c := rising([][]int{{1, 2, 3}, {3}, {2, 3}}, [][]int{{3}, {2, 3}}, [][]int{{3}}, nil)
	c.Plans = [][]int{{5, 3, 2, 0}, {0, 1, 1, 1000}}
	c.Domains[3].To, c.Domains[3].Release = 1, []int{0, 4, 1}
	for at := range c.Domains {
		d := &c.Domains[at]
		d.Label.Cats = 1<<at - 1
		d.Threads, d.Groups, d.Ring, d.Sends, d.Box = 8, 4, 16, 8, 8
	}
	return c
}

// most has as many domains as may be, and routes as long and as many.
func most() api.Conf {
	var all [][][]int
	for at := range mostDomains - 1 {
		var above []int
		for up := at + 1; up < mostDomains; up++ {
			above = append(above, up)
		}
		all = append(all, [][]int{above, above[len(above)-1:], above[:1]})
	}
	return rising(append(all, nil)...)
}

// twice is one and the same conf in memory of its own.
func twice(c api.Conf) api.Conf {
	c.Plans = rows(c.Plans)
	c.Domains = slices.Clone(c.Domains)
	for at := range c.Domains {
		c.Domains[at].Routes = rows(c.Domains[at].Routes)
		c.Domains[at].Release = slices.Clone(c.Domains[at].Release)
	}
	return c
}

func rows(of [][]int) [][]int {
	out := slices.Clone(of)
	for at := range out {
		out[at] = slices.Clone(out[at])
	}
	return out
}

// spoils gives ways to bring full to each of conf's cases.
func spoils() map[string]func(c *api.Conf) {
	return map[string]func(c *api.Conf){
		"no frame":              func(c *api.Conf) { c.Frame = 0 },
		"a frame far too long":  func(c *api.Conf) { c.Frame = math.MaxInt },
		"an epoch of 9":         func(c *api.Conf) { c.Epoch = 9 },
		"no domains":            func(c *api.Conf) { c.Domains = nil },
		"a domain fewer":        func(c *api.Conf) { c.Domains = c.Domains[:3] },
		"a domain more":         func(c *api.Conf) { c.Domains = append(c.Domains, c.Domains[0]) },
		"seven domains":         func(c *api.Conf) { *c = rising(nil, nil, nil, nil, nil, [][]int{{6}}, nil) },
		"far too many domains":  func(c *api.Conf) { *c = rising(make([][][]int, 300)...) },
		"a label above 255":     func(c *api.Conf) { c.Domains[3].Label.Level = 256 },
		"no plans":              func(c *api.Conf) { c.Plans = nil },
		"four plans":            func(c *api.Conf) { c.Plans = slices.Repeat(c.Plans, 2) },
		"a plan of nothing":     func(c *api.Conf) { c.Plans[1] = []int{0, 0, 0, 0} },
		"no threads":            func(c *api.Conf) { c.Domains[0].Threads = 0 },
		"no box":                func(c *api.Conf) { c.Domains[0].Box = 0 },
		"four routes":           func(c *api.Conf) { c.Domains[0].Routes = append(c.Domains[0].Routes, []int{3}) },
		"far too many routes":   func(c *api.Conf) { c.Domains[0].Routes = slices.Repeat([][]int{{3}}, 300) },
		"a route of nobody":     func(c *api.Conf) { c.Domains[1].Routes = [][]int{nil} },
		"routes, one of nobody": func(c *api.Conf) { c.Domains[0].Routes[1] = nil },
		"a route to no domain":  func(c *api.Conf) { c.Domains[1].Routes = [][]int{{3, 4}} },
		"a route to -1":         func(c *api.Conf) { c.Domains[1].Routes = [][]int{{-1}} },
		"a route to itself":     func(c *api.Conf) { c.Domains[1].Routes = [][]int{{1, 2}} },
		"a route that falls":    func(c *api.Conf) { c.Domains[1].Routes = [][]int{{0}} },
		"a route, then down":    func(c *api.Conf) { c.Domains[0].Routes = [][]int{{3, 2}} },
		"a route that stays":    func(c *api.Conf) { c.Domains[0].Routes = [][]int{{2, 2}} },
		"amounts to nobody":     func(c *api.Conf) { c.Domains[3].To = nobody },
		"five amounts":          func(c *api.Conf) { c.Domains[3].Release = []int{0, 1, 3, 2, 0} },
		"all of it zero":        func(c *api.Conf) { *c = api.Conf{} },
	}
}

// model is the chapter's Routes, as plainly as may be: how often each domain's
// were offered.
type model struct {
	c       api.Conf
	offered map[int]int
}

func (m *model) offer(d int) {
	m.offered[d]++
}

// turn goes through the routes as often as they were offered.
func (m *model) turn(d int) int {
	if d < 0 || d >= len(m.c.Domains) || len(m.c.Domains[d].Routes) == 0 {
		return 0
	}
	at := 0
	for range m.offered[d] {
		at++
		if at == len(m.c.Domains[d].Routes) {
			at = 0
		}
	}
	return at
}

func (m *model) now(d int) []int {
	if d < 0 || d >= len(m.c.Domains) || len(m.c.Domains[d].Routes) == 0 {
		return nil
	}
	return m.c.Domains[d].Routes[m.turn(d)]
}

// both are Routes and their model, that are told the same.
type both struct {
	t      *testing.T
	routes *route.Routes
	model  *model
}

func newBoth(t *testing.T, c api.Conf) *both {
	b := &both{t, route.New(c), &model{twice(c), map[int]int{}}}
	b.alike("New")
	return b
}

// alike holds what the one tells of each domain, and of those that aren't
// there, against what the other one does.
func (b *both) alike(after string) {
	b.t.Helper()
	for d := -2; d < mostDomains+2; d++ {
		holds(b.t, after, b.routes, d, b.model.turn(d), b.model.now(d))
	}
}

func (b *both) offer(d int) {
	b.t.Helper()
	offers(b.t, "a row of calls", b.routes, d, b.model.now(d))
	b.model.offer(d)
	b.alike("Offer")
}

func holds(t *testing.T, after string, r *route.Routes, d, turn int, now []int) {
	t.Helper()
	if got := r.Turn(d); got != turn {
		t.Errorf("P16.1: after %s it is the turn of %d's %d, want %d", after, d, got, turn)
	}
	if got := r.Now(d); !slices.Equal(got, now) {
		t.Errorf("P16.1: after %s %d's now is %v, want %v", after, d, got, now)
	}
}

func offers(t *testing.T, after string, r *route.Routes, d int, want []int) {
	t.Helper()
	if got := r.Offer(d); !slices.Equal(got, want) {
		t.Errorf("P16.1: after %s %d's offer is %v, want %v", after, d, got, want)
	}
}

// random gives a conf that may be, of any number of domains and of routes.
func random(from *rand.Rand) api.Conf {
	routes := make([][][]int, 1+from.Intn(mostDomains))
	for at := range routes[:len(routes)-1] {
		for range from.Intn(mostRoutes + 1) {
			var one []int
			for up := at + 1; up < len(routes); up++ {
				if from.Intn(2) == 0 {
					one = append(one, up)
				}
			}
			if len(one) == 0 {
				one = []int{len(routes) - 1}
			}
			routes[at] = append(routes[at], one)
		}
	}
	return rising(routes...)
}

// P16.1: each configuration that the others are made from is as it may be, at
// the limits too.
func TestMay(t *testing.T) {
	for _, c := range []api.Conf{full(), most(), rising(nil), rising([][]int{{1}}, nil)} {
		if err := conf.Is(c); err != nil {
			t.Errorf("P16.1: %v: %v", c, err)
		}
	}
	from := rand.New(rand.NewSource(16))
	for range 200 {
		if c := random(from); conf.Is(c) != nil {
			t.Errorf("P16.1: %v: %v", c, conf.Is(c))
		}
	}
}

// P16.1: the turn is 0 at first, and stays there while nothing is offered; now
// is the first route.
func TestNew(t *testing.T) {
	for _, c := range []api.Conf{full(), most()} {
		r := route.New(c)
		for range 4 {
			for d, domain := range c.Domains {
				var first []int
				if len(domain.Routes) > 0 {
					first = domain.Routes[0]
				}
				holds(t, "New", r, d, 0, first)
			}
		}
	}
}

// P16.1: worked out by hand, offer by offer.
func TestByHand(t *testing.T) {
	r := route.New(full())
	for _, step := range []struct {
		d     int
		offer []int
		turn  int
		now   []int
	}{
		{0, []int{1, 2, 3}, 1, []int{3}},
		{0, []int{3}, 2, []int{2, 3}},
		{1, []int{3}, 1, []int{2, 3}},
		{0, []int{2, 3}, 0, []int{1, 2, 3}},
		{2, []int{3}, 0, []int{3}},
		{3, nil, 0, nil},
		{1, []int{2, 3}, 0, []int{3}},
		{0, []int{1, 2, 3}, 1, []int{3}},
		{4, nil, 0, nil},
		{-1, nil, 0, nil},
		{2, []int{3}, 0, []int{3}},
		{1, []int{3}, 1, []int{2, 3}},
		{0, []int{3}, 2, []int{2, 3}},
	} {
		offers(t, "those ahead", r, step.d, step.offer)
		holds(t, "that offer", r, step.d, step.turn, step.now)
	}
}

// P16.1: behind the last route it is the first one's turn, of however many
// there are, and however often they were offered.
func TestRound(t *testing.T) {
	for many := 1; many <= mostRoutes; many++ {
		routes := [][]int{{1}, {2}, {1, 2}}[:many]
		r := route.New(rising(routes, nil, nil))
		for nth := range 100000 {
			holds(t, "some offers", r, 0, nth%many, routes[nth%many])
			offers(t, "some offers", r, 0, routes[nth%many])
			if t.Failed() {
				return
			}
		}
	}
}

// P16.1: one route, always that: also of two or three that are alike, though
// of these the turn goes on.
func TestAlike(t *testing.T) {
	for many := 1; many <= mostRoutes; many++ {
		r := route.New(rising(slices.Repeat([][]int{{1, 2}}, many), nil, nil))
		for nth := range 20 {
			holds(t, "some offers", r, 0, nth%many, []int{1, 2})
			offers(t, "some offers", r, 0, []int{1, 2})
		}
	}
}

// P16.1: one domain's turn doesn't hang on another one's, nor on where its
// routes lie.
func TestEachApart(t *testing.T) {
	shared := [][]int{{3}, {4, 5}, {5}}
	for _, order := range [][]int{{0, 1, 2}, {2, 1, 0}, {1, 1, 0, 2, 2, 2}, {2, 2, 2, 2, 0}} {
		r := route.New(rising(shared, shared, shared, nil, nil, nil))
		var often [3]int
		for range 10 {
			for _, d := range order {
				offers(t, "others' offers", r, d, shared[often[d]%3])
				often[d]++
				for other := range often {
					holds(t, "another one's offer", r, other, often[other]%3, shared[often[other]%3])
				}
			}
		}
	}
}

// P16.1: none of a domain without routes, and of no such domain; no turn goes
// on by its being offered.
func TestNone(t *testing.T) {
	for domains := 1; domains <= mostDomains; domains++ {
		routes := make([][][]int, domains)
		if domains > 1 {
			routes[0] = [][]int{{1}, {domains - 1}}
		}
		r := route.New(rising(routes...))
		if domains > 1 {
			offers(t, "New", r, 0, []int{1})
		}
		for _, d := range append([]int{domains, domains + 1, 6, 7}, wild...) {
			offersNone(t, r, d, domains)
		}
		for d := range domains {
			if d > 0 || domains == 1 {
				offersNone(t, r, d, domains)
			}
		}
		if domains > 1 {
			holds(t, "others' offers", r, 0, 1, []int{domains - 1})
		}
	}
}

func offersNone(t *testing.T, r *route.Routes, d, domains int) {
	t.Helper()
	if d >= 0 && d < domains && len(r.Now(d)) > 0 {
		t.Errorf("P16.1: %d has routes", d)
	}
	for range 3 {
		holds(t, "being offered none", r, d, 0, nil)
		offers(t, "being offered none", r, d, nil)
	}
}

// P16.1: Now and Turn change nothing, however often they are asked.
func TestAskedOnly(t *testing.T) {
	r, quiet := route.New(full()), route.New(full())
	for nth := range 20 {
		for d := range 4 {
			for range nth % 5 {
				r.Now(d)
				r.Turn(d)
			}
			offers(t, "being asked", r, d, quiet.Offer(d))
		}
	}
}

// P16.1: each row of up to five offers, of those that have three, two, one and
// no routes, and of nobody.
func TestShortRows(t *testing.T) {
	const length = 5
	row := make([]int, length)
	for !t.Failed() {
		b := newBoth(t, full())
		for _, d := range row {
			b.offer(d)
		}
		at := 0
		for at < length && row[at] == 4 {
			row[at] = 0
			at++
		}
		if at == length {
			break
		}
		row[at]++
	}
}

// P16.1: long rows of offers at random.
func TestLongRows(t *testing.T) {
	from := rand.New(rand.NewSource(161))
	for range 100 {
		b := newBoth(t, random(from))
		for range 100 {
			if from.Intn(10) == 0 {
				b.offer(wild[from.Intn(len(wild))])
			} else {
				b.offer(from.Intn(mostDomains+2) - 1)
			}
		}
		if t.Failed() {
			return
		}
	}
}

// P16.1: of what isn't as it may be nothing is promised, but that all calls
// end and none panics.
func TestMayNot(t *testing.T) {
	for what, spoil := range spoils() {
		c := full()
		spoil(&c)
		if conf.Is(c) == nil {
			t.Errorf("P16.1: %s: it is as it may be", what)
		}
		r := route.New(c)
		for _, d := range append([]int{0, 1, 2, 3, 4, 5, 6}, wild...) {
			for range 5 {
				r.Now(d)
				r.Turn(d)
				r.Offer(d)
			}
		}
	}
}

// P16.1: routes are those of the conf, whatever its other parts.
func TestNothingElse(t *testing.T) {
	for what, change := range map[string]func(c *api.Conf){
		"nothing":         func(c *api.Conf) {},
		"another frame":   func(c *api.Conf) { c.Frame = 64 },
		"another epoch":   func(c *api.Conf) { c.Epoch = 8 },
		"other plans":     func(c *api.Conf) { c.Plans = [][]int{{0, 0, 7, 0}} },
		"other labels":    func(c *api.Conf) { c.Domains[3].Label = api.Label{Level: 255, Cats: math.MaxUint64} },
		"other quotas":    func(c *api.Conf) { c.Domains[1].Threads, c.Domains[1].Groups, c.Domains[1].Ring = 1, 0, 1 },
		"other amounts":   func(c *api.Conf) { c.Domains[3].Release = []int{4} },
		"no amounts":      func(c *api.Conf) { c.Domains[3].To, c.Domains[3].Release = nobody, nil },
		"routes as empty": func(c *api.Conf) { c.Domains[3].Routes = [][]int{} },
	} {
		c := full()
		change(&c)
		if conf.Is(c) != nil {
			t.Errorf("P16.1: %s: %v", what, conf.Is(c))
		}
		r := route.New(c)
		for range 3 {
			for _, want := range [][]int{{1, 2, 3}, {3}, {2, 3}} {
				offers(t, what, r, 0, want)
			}
			offers(t, what, r, 1, []int{3})
			offers(t, what, r, 1, []int{2, 3})
			offers(t, what, r, 2, []int{3})
			offers(t, what, r, 3, nil)
			holds(t, what, r, 3, 0, nil)
		}
	}
}

// P16.1: whose routes they are goes by places, not by how high the labels are:
// the last place may have routes, the first one none.
func TestPlacesInAnyOrder(t *testing.T) {
	c := rising(nil, nil, nil, nil)
	for at, level := range []int{3, 0, 2, 1} {
		c.Domains[at].Label = api.Label{Level: level}
	}
	c.Domains[1].Routes = [][]int{{3, 2, 0}, {3, 0}}
	c.Domains[2].Routes = [][]int{{0}}
	c.Domains[3].Routes = [][]int{{2}, {0}, {2, 0}}
	if conf.Is(c) != nil {
		t.Fatalf("P16.1: %v", conf.Is(c))
	}
	r := route.New(c)
	offers(t, "New", r, 1, []int{3, 2, 0})
	offers(t, "an offer", r, 1, []int{3, 0})
	offers(t, "two offers", r, 1, []int{3, 2, 0})
	offers(t, "three offers", r, 2, []int{0})
	offers(t, "four offers", r, 0, nil)
	for _, want := range [][]int{{2}, {0}, {2, 0}, {2}} {
		offers(t, "some offers", r, 3, want)
	}
}

// P16.1: what is handed in is left as it is, spare room too.
func TestLeftAsItIs(t *testing.T) {
	c := full()
	one, all := []int{1, 2, 3, 77, 78}, [][]int{nil, {3}, {2, 3}, {77}}
	domains := append(c.Domains, api.Domain{To: 77})
	all[0] = one[:3]
	c.Domains = domains[:4]
	c.Domains[0].Routes = all[:3]
	was := twice(c)
	r := route.New(c)
	for range 7 {
		for d := -1; d < 6; d++ {
			r.Turn(d)
			spoil(r.Now(d))
			spoil(r.Offer(d))
		}
	}
	if !slices.Equal(one, []int{1, 2, 3, 77, 78}) || !slices.Equal(all[3], []int{77}) || domains[4].To != 77 {
		t.Errorf("P16.1: a route %v, routes %v, domains %v", one, all, domains)
	}
	if !conf.Same(c, was) {
		t.Errorf("P16.1: %v, was %v", c, was)
	}
}

// P16.1: what becomes later of what was handed in changes nothing.
func TestKeepsNothing(t *testing.T) {
	for what, change := range spoils() {
		c := full()
		r := route.New(c)
		offers(t, what, r, 0, []int{1, 2, 3})
		for _, domain := range c.Domains {
			for at := range domain.Routes {
				spoil(domain.Routes[at])
				domain.Routes[at] = []int{5}
			}
		}
		change(&c)
		for at := range c.Domains {
			c.Domains[at] = api.Domain{Routes: [][]int{{1}, {2}, {3}, {4}}}
		}
		for _, want := range [][]int{{3}, {2, 3}, {1, 2, 3}, {3}} {
			offers(t, what, r, 0, want)
		}
		offers(t, what, r, 1, []int{3})
		holds(t, what, r, 1, 1, []int{2, 3})
		offers(t, what, r, 2, []int{3})
		offers(t, what, r, 3, nil)
	}
}

// P16.1: answers are new memory, their spare room too; what is written to one
// is in no other, earlier or later.
func TestAnswersApart(t *testing.T) {
	r := route.New(full())
	early, offer, late := r.Now(0), r.Offer(0), r.Now(0)
	spoil(offer)
	if !slices.Equal(early, []int{1, 2, 3}) || !slices.Equal(late, []int{3}) {
		t.Errorf("P16.1: others of the answers are %v, %v", early, late)
	}
	spoil(late)
	spoil(early)
	for range 3 {
		for _, want := range [][]int{{3}, {2, 3}, {1, 2, 3}} {
			now := r.Now(0)
			if !slices.Equal(now, want) {
				t.Errorf("P16.1: now is %v, want %v", now, want)
			}
			spoil(now)
			offer := r.Offer(0)
			if !slices.Equal(offer, want) {
				t.Errorf("P16.1: the offer is %v, want %v", offer, want)
			}
			spoil(offer)
		}
	}
}

// spoil writes to a list, and to its spare room.
func spoil(list []int) {
	list = list[:cap(list)]
	for at := range list {
		list[at] = 99
	}
}

// P16.1: two Routes of one conf know nothing of one another.
func TestSideBySide(t *testing.T) {
	c := full()
	one, other := route.New(c), route.New(c)
	offers(t, "New", one, 0, []int{1, 2, 3})
	holds(t, "the other one's offer", other, 0, 0, []int{1, 2, 3})
	offers(t, "the other one's offer", other, 1, []int{3})
	holds(t, "the other one's offer", one, 1, 0, []int{3})
	holds(t, "its own offer", one, 0, 1, []int{3})
	holds(t, "its own offer", other, 1, 1, []int{2, 3})
	holds(t, "New", route.New(c), 0, 0, []int{1, 2, 3})
}

func first(t *testing.T, of []int, runnable []bool, want int) {
	t.Helper()
	if got := route.First(of, runnable); got != want {
		t.Errorf("P16.1: first of %v, %v: %d, want %d", of, runnable, got, want)
	}
}

// P16.1: worked out by hand: it is the route's order that tells who is first,
// not who has the least place.
func TestFirstByHand(t *testing.T) {
	for _, row := range []struct {
		of       []int
		runnable []bool
		want     int
	}{
		{nil, nil, -1},
		{nil, []bool{true}, -1},
		{[]int{}, []bool{true}, -1},
		{[]int{0}, nil, -1},
		{[]int{0}, []bool{}, -1},
		{[]int{0}, []bool{true}, 0},
		{[]int{0}, []bool{false}, -1},
		{[]int{0}, []bool{false, true}, -1},
		{[]int{1}, []bool{true, false}, -1},
		{[]int{1}, []bool{false, true}, 1},
		{[]int{3, 1, 2}, []bool{true, true, true, true}, 3},
		{[]int{3, 1, 2}, []bool{true, true, true, false}, 1},
		{[]int{3, 1, 2}, []bool{true, false, true, false}, 2},
		{[]int{3, 1, 2}, []bool{true, false, false, false}, -1},
		{[]int{3, 1, 2}, []bool{true, true, true}, 1},
		{[]int{3, 1, 2}, []bool{true}, -1},
		{[]int{2, 2, 1, 2, 1}, []bool{true, true, false}, 1},
		{[]int{5, -1, 0}, []bool{true}, 0},
		{[]int{-1, 9, 5}, []bool{true, true}, -1},
		{[]int{0, 5}, []bool{false, false, false, false, false, true}, 5},
	} {
		first(t, row.of, row.runnable, row.want)
	}
}

// P16.1: a place that isn't there can't run, wild as it may be, wherever it is
// on the route; who is behind it is asked still.
func TestFirstNotThere(t *testing.T) {
	for length := range 7 {
		runnable := slices.Repeat([]bool{true}, length)
		for _, n := range append([]int{length, length + 1, 7}, wild...) {
			first(t, []int{n}, runnable, nobody)
			first(t, []int{n, n, n}, runnable, nobody)
			for d := range length {
				first(t, []int{n, d}, runnable, d)
				first(t, []int{d, n}, runnable, d)
				first(t, []int{n, d, n}, runnable, d)
			}
		}
	}
}

// P16.1: what lies in the spare room of the route or of who can run counts for
// nothing.
func TestFirstSpareRoom(t *testing.T) {
	of, runnable := []int{2, 3, 0, 1}, []bool{false, false, true, true}
	first(t, of[:0], runnable, nobody)
	first(t, of[:2], runnable[:2], nobody)
	first(t, of, runnable[:2], nobody)
	first(t, of[2:3], runnable, nobody)
	first(t, of[1:2], runnable, 3)
	first(t, of, runnable[2:], 0)
	if !slices.Equal(of, []int{2, 3, 0, 1}) || !slices.Equal(runnable, []bool{false, false, true, true}) {
		t.Errorf("P16.1: handed in: %v, %v", of, runnable)
	}
}

// P16.1: each route of up to four of five places, one of them not there and one
// below 0, by each of who can run: as the chapter's words go.
func TestFirstAll(t *testing.T) {
	var each func(of []int)
	each = func(of []int) {
		for length := range 4 {
			for bits := range 1 << length {
				runnable := make([]bool, length)
				for at := range runnable {
					runnable[at] = bits>>at&1 == 1
				}
				first(t, of, runnable, firstOf(of, runnable))
			}
		}
		if len(of) == 4 || t.Failed() {
			return
		}
		for n := -1; n < 4; n++ {
			each(append(slices.Clone(of), n))
		}
	}
	each(nil)
}

// firstOf is by the chapter's words, from the last of the route on: each that
// can run takes the place of those behind it.
func firstOf(of []int, runnable []bool) int {
	found := nobody
	for _, n := range slices.Backward(of) {
		for at, can := range runnable {
			if at == n && can {
				found = n
			}
		}
	}
	return found
}

// P16.1: a route far longer than any that may be.
func TestFirstLong(t *testing.T) {
	const long = 1 << 20
	of, runnable := make([]int, long), make([]bool, long)
	for at := range of {
		of[at] = long - 1 - at
	}
	first(t, of, runnable, nobody)
	runnable[0] = true
	first(t, of, runnable, 0)
	runnable[long-1] = true
	first(t, of, runnable, long-1)
	first(t, of, runnable[:long-1], 0)
	first(t, slices.Repeat([]int{nobody}, long), runnable, nobody)
}

// P16.2: upward: each of a route that is offered is strictly above the one
// ahead of it, and the first above the domain; so the first that can run is.
func TestUpward(t *testing.T) {
	from := rand.New(rand.NewSource(162))
	for range 200 {
		c := random(from)
		r := route.New(c)
		for range 30 {
			d := from.Intn(len(c.Domains))
			labels := []api.Label{c.Domains[d].Label}
			runnable := make([]bool, len(c.Domains))
			for at := range runnable {
				runnable[at] = from.Intn(2) == 0
			}
			of := r.Offer(d)
			for _, up := range of {
				labels = append(labels, c.Domains[up].Label)
			}
			if !label.Chain(labels...) {
				t.Errorf("P16.2: %d's offer %v: %v", d, of, labels)
			}
			if at := route.First(of, runnable); at != nobody && !label.Chain(c.Domains[d].Label, c.Domains[at].Label) {
				t.Errorf("P16.2: %d, the first of %d's, isn't above it", at, d)
			}
		}
	}
}

// P16.2: one by one: of a route those ahead are asked first; as each of them
// can't run any more, it is the next one's, up to nobody.
func TestOneByOne(t *testing.T) {
	for d, domain := range most().Domains {
		for nth := range domain.Routes {
			r := route.New(most())
			for range nth {
				r.Offer(d)
			}
			of := r.Offer(d)
			if !slices.Equal(of, domain.Routes[nth]) {
				t.Errorf("P16.2: %d's offer is %v, want %v", d, of, domain.Routes[nth])
			}
			runnable := slices.Repeat([]bool{true}, mostDomains)
			for _, up := range of {
				first(t, of, runnable, up)
				runnable[up] = false
			}
			first(t, of, runnable, nobody)
		}
	}
}
