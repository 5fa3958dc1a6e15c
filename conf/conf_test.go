package conf_test

import (
	"errors"
	"fmt"
	"math"
	"slices"
	"testing"

	"tontine/api"
	"tontine/conf"
)

// rising has four domains: two sides that rise from 0 and meet in 3. The sides
// 1 and 2 don't flow to each other; 3 gives to 1, 2 to 0.
func rising() api.Conf {
	return api.Conf{
		Frame: 10, Epoch: 3,
		Plans: [][]int{{5, 3, 1, 1}, {0, 0, 1000, 0}},
		Domains: []api.Domain{
			{Label: api.Label{}, Routes: [][]int{{1, 3}, {2}, {2, 3}}, To: -1, Threads: 8, Groups: 4, Ring: 16, Sends: 8, Box: 8},
			{Label: api.Label{Level: 1, Cats: 1}, Routes: [][]int{{3}}, To: -1, Threads: 1, Groups: 0, Ring: 1, Sends: 0, Box: 1},
			{Label: api.Label{Level: 1, Cats: 2}, Release: []int{4}, To: 0, Threads: 4, Groups: 2, Ring: 8, Sends: 3, Box: 2},
			{Label: api.Label{Level: 1, Cats: 3}, Release: []int{0, 10, 3, 3}, To: 1, Threads: 2, Groups: 1, Ring: 2, Sends: 1, Box: 7},
		},
	}
}

// stack has n domains, one above the other.
func stack(n int) api.Conf {
	c := api.Conf{Frame: 1, Epoch: 1, Plans: [][]int{nil}}
	for at := range n {
		c.Plans[0] = append(c.Plans[0], 1)
		c.Domains = append(c.Domains, api.Domain{Label: api.Label{Level: at}, To: -1, Threads: 1, Ring: 1, Box: 1})
	}
	return c
}

// fullest is at its limit everywhere.
func fullest() api.Conf {
	c := stack(6)
	c.Frame, c.Epoch = 64, 8
	c.Plans = [][]int{{1000, 1000, 1000, 1000, 1000, 1000}, {0, 0, 0, 0, 0, 1}, {1, 0, 0, 0, 0, 0}}
	for at := range c.Domains {
		d := &c.Domains[at]
		d.Label = api.Label{Level: 250 + at, Cats: 1<<(10*at) - 1}
		d.Threads, d.Groups, d.Ring, d.Sends, d.Box = 8, 4, 16, 8, 8
		if at > 0 {
			d.To, d.Release = at-1, []int{0, 64, 64, 0}
		}
		if at < 5 {
			var up []int
			for to := at + 1; to < 6; to++ {
				up = append(up, to)
			}
			d.Routes = [][]int{up, {at + 1}, {5}}
		}
	}
	return c
}

// held holds Is and Ticks against the error that is asked for, 0 of none.
func held(t *testing.T, what string, c api.Conf, want api.Errno) {
	t.Helper()
	err, ticks := conf.Is(c), 0
	if want == 0 {
		ticks = c.Frame * c.Epoch
	}
	var got api.Errno
	if want == 0 && err != nil || want != 0 && (!errors.As(err, &got) || got != want || !errors.Is(err, want)) {
		t.Errorf("P3.1: Is, %s: %v, want %d", what, err, int(want))
	}
	if n := conf.Ticks(c); n != ticks {
		t.Errorf("P3.1: Ticks, %s: %d, want %d", what, n, ticks)
	}
}

// around gives numbers on both sides of a range's ends, and far from them.
func around(least, most int) []int {
	out := []int{math.MinInt, math.MinInt + 1, -1 << 32, math.MaxInt, math.MaxInt - 1, 1 << 32, 1<<32 + least}
	for n := least - 3; n <= most+3; n++ {
		out = append(out, n)
	}
	return out
}

// P3.1: a number is let from one of its limits to the other, in each place
// where it stands; one past it is its own error.
func TestIsLimits(t *testing.T) {
	for what, of := range map[string]struct {
		least, most int
		part        func(c *api.Conf, at int) *int
		want        api.Errno
	}{
		"Frame":   {1, 64, func(c *api.Conf, at int) *int { return &c.Frame }, api.ErrForm},
		"Epoch":   {1, 8, func(c *api.Conf, at int) *int { return &c.Epoch }, api.ErrForm},
		"Level":   {0, 255, func(c *api.Conf, at int) *int { return &c.Domains[at].Label.Level }, api.ErrForm},
		"share":   {0, 1000, func(c *api.Conf, at int) *int { return &c.Plans[at/2][at] }, api.ErrShare},
		"Threads": {1, 8, func(c *api.Conf, at int) *int { return &c.Domains[at].Threads }, api.ErrQuota},
		"Groups":  {0, 4, func(c *api.Conf, at int) *int { return &c.Domains[at].Groups }, api.ErrQuota},
		"Ring":    {1, 16, func(c *api.Conf, at int) *int { return &c.Domains[at].Ring }, api.ErrQuota},
		"Sends":   {0, 8, func(c *api.Conf, at int) *int { return &c.Domains[at].Sends }, api.ErrQuota},
		"Box":     {1, 8, func(c *api.Conf, at int) *int { return &c.Domains[at].Box }, api.ErrQuota},
	} {
		for at := range 4 {
			for _, n := range around(of.least, of.most) {
				c := stack(4)
				c.Plans = [][]int{{1, 1, 1, 1}, {1, 1, 1, 1}}
				*of.part(&c, at) = n
				want := of.want
				if of.least <= n && n <= of.most {
					want = 0
				}
				held(t, fmt.Sprintf("%s of %d is %d", what, at, n), c, want)
			}
		}
	}
}

// P3.1: an amount is let from 0 to Frame, whatever Frame is, in each of its
// places, and needn't rise.
func TestIsAmounts(t *testing.T) {
	for _, frame := range []int{1, 2, 10, 63, 64} {
		for at := range 4 {
			for _, n := range around(0, frame) {
				c := stack(2)
				c.Frame, c.Domains[1].To, c.Domains[1].Release = frame, 0, []int{1, 1, 0, 0}
				c.Domains[1].Release[at] = n
				want := api.ErrRoute
				if 0 <= n && n <= frame {
					want = 0
				}
				held(t, fmt.Sprintf("amount %d is %d of %d", at, n, frame), c, want)
			}
		}
	}
}

// P3.1: any set of Cats may be.
func TestIsAnyCats(t *testing.T) {
	for bit := range 64 {
		c := stack(2)
		c.Domains[0].Label.Cats = 1 << bit
		c.Domains[1].Label.Cats = math.MaxUint64
		held(t, fmt.Sprintf("cat %d", bit), c, 0)
	}
}

// P3.1: how many domains, plans, routes and levels there may be.
func TestIsHowMany(t *testing.T) {
	for n := range 12 {
		many := func(least, most int, past api.Errno) api.Errno {
			if least <= n && n <= most {
				return 0
			}
			return past
		}
		held(t, fmt.Sprintf("%d domains", n), stack(n), many(1, 6, api.ErrForm))
		c := stack(2)
		c.Plans = slices.Repeat([][]int{{1, 0}}, n)
		held(t, fmt.Sprintf("%d plans", n), c, many(1, 3, api.ErrShare))
		c = stack(2)
		c.Domains[0].Routes = slices.Repeat([][]int{{1}}, n)
		held(t, fmt.Sprintf("%d routes", n), c, many(0, 3, api.ErrRoute))
		c = stack(2)
		c.Domains[1].To, c.Domains[1].Release = 0, make([]int, n)
		held(t, fmt.Sprintf("%d levels", n), c, many(1, 4, api.ErrRoute))
		c = stack(2)
		c.Domains[1].Release = make([]int, n)
		held(t, fmt.Sprintf("%d levels to nobody", n), c, many(0, 0, api.ErrRoute))
	}
}

// P3.1: a plan has one share for each domain, and one above 0 at least.
func TestIsPlans(t *testing.T) {
	for domains := 1; domains <= 6; domains++ {
		for n := range 9 {
			for _, share := range []int{0, 1} {
				for place := range 3 {
					c := stack(domains)
					c.Plans = [][]int{c.Plans[0], c.Plans[0], c.Plans[0]}
					c.Plans[place] = slices.Repeat([]int{share}, n)
					want := api.ErrShare
					if n == domains && share > 0 {
						want = 0
					}
					held(t, fmt.Sprintf("%d domains, plan %d of %d shares %d", domains, place, n, share), c, want)
				}
			}
		}
		for at := range domains {
			c := stack(domains)
			c.Plans[0] = make([]int, domains)
			c.Plans[0][at] = 1
			held(t, fmt.Sprintf("%d domains, all is %d's", domains, at), c, 0)
			if domains > 1 {
				c.Plans[0] = make([]int, domains)
				c.Plans[0][at], c.Plans[0][(at+1)%domains] = -1, 2
				held(t, fmt.Sprintf("%d domains, %d has less than nothing", domains, at), c, api.ErrShare)
			}
		}
	}
}

// up is P3.1's chain of two labels, cat by cat.
func up(a, b api.Label) bool {
	if a == b || a.Level > b.Level {
		return false
	}
	for bit := range 64 {
		if a.Cats>>bit&1 > b.Cats>>bit&1 {
			return false
		}
	}
	return true
}

// climbs is P3.1's route of a domain: all places first, then all pairs.
func climbs(c api.Conf, d int, route []int) bool {
	all := append([]int{d}, route...)
	for _, at := range all {
		if at < 0 || at >= len(c.Domains) {
			return false
		}
	}
	for at := 1; at < len(all); at++ {
		if !up(c.Domains[all[at-1]].Label, c.Domains[all[at]].Label) {
			return false
		}
	}
	return len(route) > 0
}

// routes gives all routes up to that long with places from -1 to n.
func routes(n, long int) [][]int {
	out := [][]int{{}}
	for from := 0; long > 0; long-- {
		ends := len(out)
		for ; from < ends; from++ {
			for to := -1; to <= n; to++ {
				out = append(out, append(slices.Clone(out[from]), to))
			}
		}
	}
	return out
}

// P3.1: a route of each domain, whichever it is, as its first one and as its
// last one.
func TestIsRoutes(t *testing.T) {
	far := [][]int{{math.MinInt}, {math.MaxInt}, {1, math.MaxInt}, {1, math.MinInt}, {1 << 32}, {1, 1<<32 + 3}}
	good := 0
	for d := range 4 {
		for _, route := range append(routes(4, 4), far...) {
			c := rising()
			want := api.ErrRoute
			if climbs(c, d, route) {
				want = 0
				good++
			}
			was := c.Domains[d].Routes
			c.Domains[d].Routes = [][]int{route}
			held(t, fmt.Sprintf("route of %d is %v", d, route), c, want)
			c.Domains[d].Routes = append(slices.Clone(was[:min(len(was), 2)]), route)
			held(t, fmt.Sprintf("last route of %d is %v", d, route), c, want)
		}
	}
	if good != 5+1+1 {
		t.Errorf("the test's own: %d routes rise", good)
	}
}

// P3.1: each of a domain's label and its routes' rises, by Levels and by Cats.
func TestIsRoutesByLabels(t *testing.T) {
	var labels []api.Label
	for _, level := range []int{0, 1, 255} {
		for cats := range uint64(4) {
			labels = append(labels, api.Label{Level: level, Cats: cats << 62})
		}
	}
	for _, a := range labels {
		for _, b := range labels {
			for _, e := range labels {
				c := stack(3)
				for at, l := range []api.Label{a, b, e} {
					c.Domains[at].Label = l
				}
				c.Domains[0].Routes = [][]int{{1, 2}}
				want := api.ErrRoute
				if up(a, b) && up(b, e) {
					want = 0
				}
				held(t, fmt.Sprintf("a route by %v, %v, %v", a, b, e), c, want)
			}
		}
	}
}

// P3.1: a route may pass by all domains, whatever their order; none is longer.
func TestIsLongRoutes(t *testing.T) {
	c := fullest()
	slices.Reverse(c.Domains)
	for at := range c.Domains {
		c.Domains[at].Routes = nil
		if c.Domains[at].To >= 0 {
			c.Domains[at].To = at + 1
		}
	}
	c.Domains[5].Routes = [][]int{{4, 3, 2, 1, 0}}
	held(t, "a route down the places", c, 0)
	c.Domains[5].Routes = [][]int{{4, 3, 2, 1, 0, 0}}
	held(t, "a route that stays at its end", c, api.ErrRoute)
	c.Domains[5].Routes = [][]int{{4, 3, 2, 1, 0, 4}}
	held(t, "a route that goes round", c, api.ErrRoute)
	c.Domains[5].Routes = [][]int{make([]int, 1<<20)}
	held(t, "a long route", c, api.ErrRoute)
}

// P3.1: to whom a domain gives, by the labels of the two.
func TestIsTo(t *testing.T) {
	for d := range 4 {
		for _, to := range around(-1, 3) {
			for _, release := range [][]int{nil, {}, {0}, {10}, {0, 5, 10}} {
				c := rising()
				c.Domains[d].To, c.Domains[d].Release = to, release
				ok := to == -1 && len(release) == 0
				if 0 <= to && to < 4 {
					ok = len(release) > 0 && up(c.Domains[to].Label, c.Domains[d].Label)
				}
				want := api.ErrRoute
				if ok {
					want = 0
				}
				held(t, fmt.Sprintf("%d gives %v to %d", d, release, to), c, want)
			}
		}
	}
}

// P3.1: labels may be alike, as long as neither is offered or given the
// other's slots.
func TestIsAlikeLabels(t *testing.T) {
	c := stack(3)
	c.Domains[2].Label = c.Domains[1].Label
	c.Domains[0].Routes = [][]int{{1}, {2}}
	c.Domains[1].To, c.Domains[1].Release = 0, []int{1}
	c.Domains[2].To, c.Domains[2].Release = 0, []int{1}
	held(t, "two alike", c, 0)
	c.Domains[0].Routes = [][]int{{1, 2}}
	held(t, "a route by two alike", c, api.ErrRoute)
	c.Domains[0].Routes = nil
	c.Domains[2].To = 1
	held(t, "one gives to one alike", c, api.ErrRoute)
	c.Domains[2].To = 0
	c.Domains[1].Routes = [][]int{{2}}
	held(t, "a route to one alike", c, api.ErrRoute)
}

// spoils gives, for each error in the document's order, ways to come by it.
func spoils() ([]api.Errno, [][]func(c *api.Conf)) {
	return []api.Errno{api.ErrForm, api.ErrShare, api.ErrQuota, api.ErrRoute}, [][]func(c *api.Conf){
		{
			func(c *api.Conf) { c.Frame = 0 },
			func(c *api.Conf) { c.Epoch = 9 },
			func(c *api.Conf) { c.Domains[3].Label.Level = 256 },
			func(c *api.Conf) { c.Domains[0].Label.Level = -1 },
			func(c *api.Conf) { c.Domains = nil },
			func(c *api.Conf) { c.Domains = make([]api.Domain, 7) },
		},
		{
			func(c *api.Conf) { c.Plans = nil },
			func(c *api.Conf) { c.Plans = append(c.Plans, c.Plans[0], c.Plans[0]) },
			func(c *api.Conf) { c.Plans[1] = c.Plans[1][:3] },
			func(c *api.Conf) { c.Plans[0] = append(c.Plans[0], 1) },
			func(c *api.Conf) { c.Plans[0] = make([]int, 4) },
			func(c *api.Conf) { c.Plans[1][3] = 1001 },
			func(c *api.Conf) { c.Plans[1][3] = -1 },
		},
		{
			func(c *api.Conf) { c.Domains[len(c.Domains)-1].Threads = 0 },
			func(c *api.Conf) { c.Domains[len(c.Domains)-1].Groups = 5 },
			func(c *api.Conf) { c.Domains[len(c.Domains)-1].Ring = 17 },
			func(c *api.Conf) { c.Domains[len(c.Domains)-1].Sends = -1 },
			func(c *api.Conf) { c.Domains[len(c.Domains)-1].Box = 0 },
		},
		{
			func(c *api.Conf) { c.Domains[0].Routes = make([][]int, 4) },
			func(c *api.Conf) { c.Domains[0].Routes = [][]int{nil} },
			func(c *api.Conf) { c.Domains[0].Routes = [][]int{{9}} },
			func(c *api.Conf) { c.Domains[0].Routes = [][]int{{0}} },
			func(c *api.Conf) { c.Domains[0].To = 9 },
			func(c *api.Conf) { c.Domains[0].To = 0 },
			func(c *api.Conf) { c.Domains[0].Release = []int{0} },
			func(c *api.Conf) { c.Domains[0].To, c.Domains[0].Release = 1, []int{1} },
			func(c *api.Conf) { c.Domains[1].To, c.Domains[1].Release = 0, []int{11} },
			func(c *api.Conf) { c.Domains[1].To, c.Domains[1].Release = 0, make([]int, 5) },
		},
	}
}

// P3.1: of several errors the first is told, over all domains and plans: a
// later domain's form is ahead of an earlier one's quota or route.
func TestIsFirst(t *testing.T) {
	errs, ways := spoils()
	for i, first := range ways {
		for a, spoil := range first {
			c := rising()
			spoil(&c)
			held(t, fmt.Sprintf("spoil %d.%d", i, a), c, errs[i])
			for j := i + 1; j < len(ways); j++ {
				for b, also := range ways[j] {
					c := rising()
					also(&c)
					spoil(&c)
					held(t, fmt.Sprintf("spoils %d.%d and %d.%d", i, a, j, b), c, errs[i])
				}
			}
		}
	}
}

// P3.1: nothing, and a configuration of domains that are zero.
func TestIsNothing(t *testing.T) {
	held(t, "nothing", api.Conf{}, api.ErrForm)
	held(t, "no domains", api.Conf{Frame: 1, Epoch: 1}, api.ErrForm)
	zero := api.Conf{Frame: 1, Epoch: 1, Domains: make([]api.Domain, 1)}
	held(t, "no plans", zero, api.ErrShare)
	zero.Plans = [][]int{{1}}
	held(t, "no quotas", zero, api.ErrQuota)
	zero.Domains[0].Threads, zero.Domains[0].Ring, zero.Domains[0].Box = 1, 1, 1
	held(t, "To itself", zero, api.ErrRoute)
	zero.Domains[0].To = -1
	held(t, "the least", zero, 0)
	zero.Domains[0].Release, zero.Domains[0].Routes = []int{}, [][]int{}
	held(t, "the least, of empty lists", zero, 0)
}

// P3.1: Ticks is Frame times Epoch.
func TestTicks(t *testing.T) {
	for frame := -1; frame <= 66; frame++ {
		for epoch := -1; epoch <= 10; epoch++ {
			c := stack(1)
			c.Frame, c.Epoch = frame, epoch
			want := 0
			if 1 <= frame && frame <= 64 && 1 <= epoch && epoch <= 8 {
				want = frame * epoch
			}
			if got := conf.Ticks(c); got != want {
				t.Errorf("P3.1: Ticks of %d times %d: %d", frame, epoch, got)
			}
		}
	}
	held(t, "rising", rising(), 0)
	held(t, "fullest", fullest(), 0)
}

// unlike gives configurations, no two of them the same: rising, and what is
// changed in one part of it, whether it may be then or not.
func unlike() []api.Conf {
	numbers := []func(c *api.Conf) *int{
		func(c *api.Conf) *int { return &c.Frame },
		func(c *api.Conf) *int { return &c.Epoch },
	}
	for at := range 4 {
		numbers = append(numbers,
			func(c *api.Conf) *int { return &c.Plans[0][at] },
			func(c *api.Conf) *int { return &c.Plans[1][at] },
			func(c *api.Conf) *int { return &c.Domains[at].Label.Level },
			func(c *api.Conf) *int { return &c.Domains[at].To },
			func(c *api.Conf) *int { return &c.Domains[at].Threads },
			func(c *api.Conf) *int { return &c.Domains[at].Groups },
			func(c *api.Conf) *int { return &c.Domains[at].Ring },
			func(c *api.Conf) *int { return &c.Domains[at].Sends },
			func(c *api.Conf) *int { return &c.Domains[at].Box },
			func(c *api.Conf) *int { return &c.Domains[3].Release[at] },
		)
	}
	for _, place := range [][2]int{{0, 0}, {0, 1}, {1, 0}, {2, 0}, {2, 1}} {
		numbers = append(numbers, func(c *api.Conf) *int { return &c.Domains[0].Routes[place[0]][place[1]] })
	}
	out := []api.Conf{{}, rising()}
	for _, part := range numbers {
		for _, by := range []int{-7, 77, 1 << 32} {
			c := rising()
			*part(&c) += by
			out = append(out, c)
		}
	}
	return append(out, otherLists()...)
}

func otherLists() []api.Conf {
	changes := []func(c *api.Conf){
		func(c *api.Conf) { c.Plans = nil },
		func(c *api.Conf) { c.Plans = c.Plans[:1] },
		func(c *api.Conf) { c.Plans = c.Plans[1:] },
		func(c *api.Conf) { slices.Reverse(c.Plans) },
		func(c *api.Conf) { c.Plans = append(c.Plans, nil) },
		func(c *api.Conf) { c.Plans = append([][]int{nil}, c.Plans...) },
		func(c *api.Conf) { c.Plans = [][]int{{5, 3, 1, 1, 0, 0, 1000, 0}} },
		func(c *api.Conf) { c.Plans = [][]int{{5, 3, 1}, {1, 0, 0, 1000, 0}} },
		func(c *api.Conf) { c.Plans[1] = nil },
		func(c *api.Conf) { c.Plans[1] = c.Plans[1][:3] },
		func(c *api.Conf) { c.Plans[1] = append(c.Plans[1], 0) },
		func(c *api.Conf) { c.Domains = nil },
		func(c *api.Conf) { c.Domains = c.Domains[:3] },
		func(c *api.Conf) { c.Domains = c.Domains[1:] },
		func(c *api.Conf) { slices.Reverse(c.Domains) },
		func(c *api.Conf) { c.Domains = append(c.Domains, api.Domain{}) },
		func(c *api.Conf) { c.Domains[0].Routes = nil },
		func(c *api.Conf) { c.Domains[0].Routes = c.Domains[0].Routes[:2] },
		func(c *api.Conf) { c.Domains[0].Routes = append(c.Domains[0].Routes, nil) },
		func(c *api.Conf) { slices.Reverse(c.Domains[0].Routes) },
		func(c *api.Conf) { c.Domains[0].Routes = [][]int{{1, 3, 2}, {2, 3}} },
		func(c *api.Conf) { c.Domains[0].Routes = [][]int{{1, 3}, {2, 2}, {3}} },
		func(c *api.Conf) { c.Domains[1].Routes = [][]int{nil} },
		func(c *api.Conf) { c.Domains[1].Routes, c.Domains[1].Release = nil, []int{3} },
		func(c *api.Conf) { c.Domains[2].Release = nil },
		func(c *api.Conf) { c.Domains[3].Release = nil },
		func(c *api.Conf) { c.Domains[3].Release = c.Domains[3].Release[:3] },
		func(c *api.Conf) { c.Domains[3].Release = append(c.Domains[3].Release, 0) },
	}
	for at := range 4 {
		for bit := range 64 {
			changes = append(changes, func(c *api.Conf) { c.Domains[at].Label.Cats ^= 1 << bit })
		}
	}
	var out []api.Conf
	for _, change := range changes {
		c := rising()
		change(&c)
		out = append(out, c)
	}
	return out
}

// P3.1: Same is of all parts, either way round, and of nothing else.
func TestSame(t *testing.T) {
	for i, a := range unlike() {
		for j, b := range unlike() {
			if got := conf.Same(a, b); got != (i == j) {
				t.Errorf("P3.1: Same of %d, %d: %v", i, j, got)
			}
		}
	}
}

// P3.1: a nil list and an empty one are the same, wherever it is.
func TestSameEmpty(t *testing.T) {
	a := stack(3)
	a.Plans = append(a.Plans, nil)
	a.Domains[1].Routes = [][]int{nil, {2}}
	b := stack(3)
	b.Plans = append(b.Plans, make([]int, 0, 4))
	b.Domains[0].Routes, b.Domains[0].Release = [][]int{}, []int{}
	b.Domains[1].Routes = [][]int{{}, {2}}
	none, empty := api.Conf{Frame: -1}, api.Conf{Frame: -1, Plans: [][]int{}, Domains: []api.Domain{}}
	if !conf.Same(a, b) || !conf.Same(b, a) || !conf.Same(none, empty) || !conf.Same(empty, none) {
		t.Error("P3.1: Same: nil and empty are unlike")
	}
}

// P3.1: what stands in a list's spare room is no part of it.
func TestSpareRoom(t *testing.T) {
	a, b := rising(), rising()
	b.Plans = append(b.Plans, []int{9})[:2]
	b.Plans[0] = append(b.Plans[0], 9)[:4]
	b.Domains = append(b.Domains, api.Domain{Threads: -1})[:4]
	b.Domains[0].Routes = append(b.Domains[0].Routes, nil)[:3]
	b.Domains[0].Routes[0] = append(b.Domains[0].Routes[0], 9)[:2]
	b.Domains[3].Release = append(b.Domains[3].Release, 99)[:4]
	held(t, "with spare room", b, 0)
	if !conf.Same(a, b) || !conf.Same(b, a) {
		t.Error("P3.1: Same asks for the spare room")
	}
}

// P3.2: whatever is let, its routes rise and what is given away goes down;
// each such configuration is let.
func TestRoutesRiseReleaseFalls(t *testing.T) {
	labels := []api.Label{{}, {Level: 1}, {Cats: 1}, {Level: 1, Cats: 1}}
	lets := 0
	for _, high := range labels {
		for _, low := range labels {
			for _, route := range [][]int{nil, {0}, {1}} {
				for to := -1; to < 2; to++ {
					c := stack(2)
					c.Domains[0].Label, c.Domains[1].Label = low, high
					ok := true
					if route != nil {
						c.Domains[0].Routes = [][]int{route}
						ok = up(low, c.Domains[route[0]].Label)
					}
					if to >= 0 {
						c.Domains[1].To, c.Domains[1].Release = to, []int{0, 1}
						ok = ok && up(c.Domains[to].Label, high)
					}
					if got := conf.Is(c) == nil; got != ok {
						t.Errorf("P3.2: %v below %v, route %v, To %d: let %v", low, high, route, to, got)
					}
					if ok {
						lets++
					}
				}
			}
		}
	}
	if lets != 16+3*5 {
		t.Errorf("the test's own: %d are let", lets)
	}
}

// What is handed in stays as it was, and isn't kept: a later change tells.
func TestChangesNothing(t *testing.T) {
	for i, c := range unlike() {
		conf.Is(c)
		conf.Ticks(c)
		conf.Same(c, rising())
		if !conf.Same(c, unlike()[i]) {
			t.Errorf("conf changed what was handed in, %d", i)
		}
	}
	c := rising()
	held(t, "ahead of a change", c, 0)
	c.Domains[0].Routes[0][0] = 0
	held(t, "behind a change", c, api.ErrRoute)
	c.Domains[0].Routes[0][0] = 1
	held(t, "changed back", c, 0)
}

func Example() {
	c := api.Conf{Frame: 4, Epoch: 2, Plans: [][]int{{3, 1}}, Domains: []api.Domain{
		{Label: api.Label{Level: 0}, Routes: [][]int{{1}}, To: -1, Threads: 1, Ring: 1, Box: 1},
		{Label: api.Label{Level: 1}, Release: []int{0, 1}, To: 0, Threads: 1, Ring: 1, Box: 1},
	}}
	fmt.Println(conf.Is(c), conf.Ticks(c), conf.Same(c, c))
	c.Domains[1].Routes = [][]int{{0}}
	fmt.Println(errors.Is(conf.Is(c), api.ErrRoute), conf.Ticks(c))
	fmt.Println(errors.Is(conf.Is(api.Conf{}), api.ErrForm))
	// Output:
	// <nil> 8 true
	// true 0
	// true
}
