package plan_test

import (
	"math"
	"math/rand"
	"slices"
	"testing"

	"tontine/api"
	"tontine/plan"
	"tontine/share"
	"tontine/spread"
)

const (
	mostFrame   = 64
	mostEpoch   = 8
	mostDomains = 6
	mostShare   = 1000
	mostPlans   = 3
)

// wild are numbers at which a number might go wrong.
var wild = []int{
	math.MinInt, math.MinInt + 1, -1 << 40, -1 << 32, -1<<31 - 1, -1 << 31, -255, -65, -64, -3, -2, -1,
	1<<31 - 1, 1 << 31, 1<<32 - 1, 1 << 32, 1<<32 + 1, 1<<32 + 2, 1 << 40, math.MaxInt - 1, math.MaxInt,
}

// plain has a domain a share, of the first plan, and is as it may be if these are.
func plain(frame, epoch int, plans ...[]int) api.Conf {
	c := api.Conf{Frame: frame, Epoch: epoch, Plans: plans}
	for at := range plans[0] {
		c.Domains = append(c.Domains, api.Domain{Label: api.Label{Level: at}, To: -1, Threads: 1, Ring: 1, Box: 1})
	}
	return c
}

// full has something in each of its parts: three that rise, the first is
// offered to the others, the last gives to the first.
func full() api.Conf {
	c := plain(10, 3, []int{5, 3, 2}, []int{0, 1, 1})
	c.Domains[0].Routes = [][]int{{1, 2}, {2}}
	c.Domains[1].Routes = [][]int{{2}}
	c.Domains[2].To, c.Domains[2].Release = 0, []int{0, 10, 3}
	for at := range c.Domains {
		d := &c.Domains[at]
		d.Label.Cats = 1<<at - 1
		d.Threads, d.Groups, d.Ring, d.Sends, d.Box = 8, 4, 16, 8, 8
	}
	return c
}

// fullOwners are whose the slots of full's first plan are: the first one's
// quanta want to be at 1, 3, 5, 7, 9, the second's at 5, 15, 25 thirds, the
// last one's at 5 and 15 halves.
func fullOwners() []int {
	return []int{0, 1, 2, 0, 0, 1, 0, 2, 1, 0}
}

// twice is one and the same conf in memory of its own.
func twice(c api.Conf) api.Conf {
	c.Plans = rows(c.Plans)
	c.Domains = slices.Clone(c.Domains)
	for at := range c.Domains {
		c.Domains[at].Routes = rows(c.Domains[at].Routes)
		c.Domains[at].Release = slices.Clone(c.Domains[at].Release)
	}
	return c
}

func rows(of [][]int) [][]int {
	out := slices.Clone(of)
	for at := range out {
		out[at] = slices.Clone(out[at])
	}
	return out
}

// spoils gives, for each of conf's cases, a way to bring full to it.
func spoils() map[string]func(c *api.Conf) {
	return map[string]func(c *api.Conf){
		"no frame":              func(c *api.Conf) { c.Frame = 0 },
		"a frame below 0":       func(c *api.Conf) { c.Frame = -4 },
		"a frame of 65":         func(c *api.Conf) { c.Frame = 65 },
		"a frame far too long":  func(c *api.Conf) { c.Frame = math.MaxInt },
		"no epoch":              func(c *api.Conf) { c.Epoch = 0 },
		"an epoch below 0":      func(c *api.Conf) { c.Epoch = -1 },
		"an epoch of 9":         func(c *api.Conf) { c.Epoch = 9 },
		"an epoch far too long": func(c *api.Conf) { c.Epoch = math.MaxInt },
		"a frame and an epoch whose product is 10": func(c *api.Conf) { c.Frame, c.Epoch = -10, -1 },
		"no domains":                  func(c *api.Conf) { c.Domains = nil },
		"a domain fewer":              func(c *api.Conf) { c.Domains = c.Domains[:2] },
		"a domain more":               func(c *api.Conf) { c.Domains = append(c.Domains, c.Domains[1]) },
		"seven domains":               func(c *api.Conf) { *c = plain(10, 3, []int{1, 1, 1, 1, 1, 1, 0}) },
		"a label above 255":           func(c *api.Conf) { c.Domains[2].Label.Level = 256 },
		"a label below 0":             func(c *api.Conf) { c.Domains[0].Label.Level = -1 },
		"no plans":                    func(c *api.Conf) { c.Plans = nil },
		"four plans":                  func(c *api.Conf) { c.Plans = slices.Repeat(c.Plans, 2) },
		"another plan too short":      func(c *api.Conf) { c.Plans[1] = []int{1, 1} },
		"another plan too long":       func(c *api.Conf) { c.Plans[1] = []int{1, 1, 1, 1} },
		"another plan of nothing":     func(c *api.Conf) { c.Plans[1] = []int{0, 0, 0} },
		"another plan of 1001":        func(c *api.Conf) { c.Plans[1][0] = 1001 },
		"another plan below 0":        func(c *api.Conf) { c.Plans[1][0] = -1 },
		"the plan too short":          func(c *api.Conf) { c.Plans[0] = []int{1, 1} },
		"the plan too long":           func(c *api.Conf) { c.Plans[0] = []int{1, 1, 1, 1} },
		"the plan of nobody":          func(c *api.Conf) { c.Plans[0] = nil },
		"the plan of nothing":         func(c *api.Conf) { c.Plans[0] = []int{0, 0, 0} },
		"the plan of 1001":            func(c *api.Conf) { c.Plans[0][2] = 1001 },
		"the plan below 0":            func(c *api.Conf) { c.Plans[0][2] = -1 },
		"no threads":                  func(c *api.Conf) { c.Domains[1].Threads = 0 },
		"nine threads":                func(c *api.Conf) { c.Domains[1].Threads = 9 },
		"five groups":                 func(c *api.Conf) { c.Domains[1].Groups = 5 },
		"no ring":                     func(c *api.Conf) { c.Domains[2].Ring = 0 },
		"nine sends":                  func(c *api.Conf) { c.Domains[2].Sends = 9 },
		"no box":                      func(c *api.Conf) { c.Domains[0].Box = 0 },
		"four routes":                 func(c *api.Conf) { c.Domains[1].Routes = slices.Repeat(c.Domains[1].Routes, 4) },
		"a route of nobody":           func(c *api.Conf) { c.Domains[1].Routes = [][]int{nil} },
		"a route that falls":          func(c *api.Conf) { c.Domains[1].Routes = [][]int{{0}} },
		"a route of who isn't there":  func(c *api.Conf) { c.Domains[1].Routes = [][]int{{3}} },
		"amounts to nobody":           func(c *api.Conf) { c.Domains[0].Release = []int{1} },
		"no amounts":                  func(c *api.Conf) { c.Domains[2].Release = nil },
		"an amount above the frame":   func(c *api.Conf) { c.Domains[2].Release[0] = 11 },
		"amounts upward":              func(c *api.Conf) { c.Domains[0].To, c.Domains[0].Release = 1, []int{1} },
		"amounts to who isn't there":  func(c *api.Conf) { c.Domains[2].To = 3 },
		"amounts of one to itself":    func(c *api.Conf) { c.Domains[2].To = 2 },
		"all of it zero":              func(c *api.Conf) { *c = api.Conf{} },
		"nobody, and all that counts": func(c *api.Conf) { c.Plans, c.Domains = [][]int{{}}, nil },
	}
}

func sum(list []int) int {
	all := 0
	for _, n := range list {
		all += n
	}
	return all
}

// owned is Owners by the words of layers 11 and 12, in whole numbers: what is
// left after rounding down goes to the greatest rests, and then all quanta are
// in the order of where they want to be.
func owned(frame int, shares []int) []int {
	all, left := sum(shares), frame
	counts := make([]int, len(shares))
	places := make([]int, len(shares))
	for place, share := range shares {
		counts[place], places[place] = frame*share/all, place
		left -= counts[place]
	}
	slices.SortStableFunc(places, func(a, b int) int { return frame*shares[b]%all - frame*shares[a]%all })
	for _, place := range places[:left] {
		counts[place]++
	}
	type quantum struct{ d, odd int } // it wants to be at odd times frame by 2 times its count
	var quanta []quantum
	for d, count := range counts {
		for k := range count {
			quanta = append(quanta, quantum{d, 2*k + 1})
		}
	}
	slices.SortStableFunc(quanta, func(a, b quantum) int { return a.odd*counts[b.d] - b.odd*counts[a.d] })
	var owners []int
	for _, q := range quanta {
		owners = append(owners, q.d)
	}
	return owners
}

func ownersAre(t *testing.T, c api.Conf, p int, want []int) {
	t.Helper()
	if got := plan.Owners(c, p); !slices.Equal(got, want) {
		t.Errorf("P13.1: Owners(%v, %d): %v, want %v", c, p, got, want)
	}
}

// ticksAre holds all three of P13.2 against what is asked for.
func ticksAre(t *testing.T, c api.Conf, tick, slot, epoch int, begins bool) {
	t.Helper()
	gotSlot, gotEpoch, gotBegins := plan.Slot(c, tick), plan.Epoch(c, tick), plan.Begins(c, tick)
	if gotSlot != slot || gotEpoch != epoch || gotBegins != begins {
		t.Errorf("P13.2: frames of %d, epochs of %d: tick %d: slot %d, epoch %d, begins %v, want %d, %d, %v",
			c.Frame, c.Epoch, tick, gotSlot, gotEpoch, gotBegins, slot, epoch, begins)
	}
}

// random gives a conf that may be, some of its shares 0.
func random(from *rand.Rand) api.Conf {
	domains := 1 + from.Intn(mostDomains)
	plans := make([][]int, 1+from.Intn(mostPlans))
	for p := range plans {
		most := []int{1, 3, 20, mostShare}[from.Intn(4)]
		for sum(plans[p]) == 0 {
			plans[p] = make([]int, domains)
			for at := range plans[p] {
				plans[p][at] = from.Intn(most + 1)
			}
		}
	}
	return plain(1+from.Intn(mostFrame), 1+from.Intn(mostEpoch), plans...)
}

// P13.1: Owners, worked out by hand, plan by plan.
func TestOwnersByHand(t *testing.T) {
	for _, c := range []struct {
		frame  int
		shares []int
		want   []int
	}{
		{1, []int{1}, []int{0}},
		{5, []int{1000}, []int{0, 0, 0, 0, 0}},
		{4, []int{2, 1, 1}, []int{0, 1, 2, 0}},
		{4, []int{0, 1, 1}, []int{1, 2, 1, 2}},
		{4, []int{2, 1}, []int{0, 0, 1, 0}},                             // 3, 1
		{4, []int{1, 2}, []int{1, 0, 1, 1}},                             // 1, 3
		{10, []int{1, 1, 1}, []int{0, 1, 2, 0, 1, 2, 0, 1, 2, 0}},       // 4, 3, 3
		{7, []int{5, 2}, []int{0, 1, 0, 0, 0, 1, 0}},                    // 5, 2
		{7, []int{2, 5}, []int{1, 0, 1, 1, 1, 0, 1}},                    // 2, 5
		{1, []int{1, 1, 1}, []int{0}},                                   // the least place
		{1, []int{1, 2, 1}, []int{1}},                                   // the greatest rest
		{2, []int{1, 1, 1}, []int{0, 1}},                                // likewise
		{3, []int{0, 1000, 0, 0, 0, 0}, []int{1, 1, 1}},                 // all is one's
		{6, []int{1, 1, 1, 1, 1, 1}, []int{0, 1, 2, 3, 4, 5}},           // one each
		{9, []int{500, 300, 100}, []int{0, 1, 0, 0, 1, 2, 0, 1, 0}},     // 5, 3, 1
		{10, []int{700, 200, 100}, []int{0, 0, 1, 0, 0, 2, 0, 1, 0, 0}}, // 7, 2, 1
		{2, []int{1, 1000}, []int{1, 1}},                                // 0, 2: a share isn't yet a slot
	} {
		other := make([]int, len(c.shares)) // all is the last one's
		other[len(other)-1] = 1
		alone := slices.Repeat([]int{len(other) - 1}, c.frame)
		ownersAre(t, plain(c.frame, 1, c.shares), 0, c.want)
		for p := range mostPlans {
			plans := slices.Repeat([][]int{other}, mostPlans)
			plans[p] = c.shares
			for at := range plans {
				want := alone
				if at == p {
					want = c.want
				}
				ownersAre(t, plain(c.frame, 8, plans...), at, want)
			}
		}
	}
}

// P13.1: Owners is spread's Slots of share's Counts, and what their words say,
// up to the greatest frame.
func TestOwners(t *testing.T) {
	from := rand.New(rand.NewSource(13))
	for range 4000 {
		c := random(from)
		for p, shares := range c.Plans {
			ownersAre(t, c, p, owned(c.Frame, shares))
			ownersAre(t, c, p, spread.Slots(share.Counts(c.Frame, shares)))
		}
	}
}

// P13.1: each frame, from the shortest to the longest, has an owner a slot,
// with as many domains, and shares as great, as may be.
func TestOwnersOfEachFrame(t *testing.T) {
	for frame := 1; frame <= mostFrame; frame++ {
		for _, shares := range [][]int{
			{1}, {1000}, {1, 1}, {999, 1000}, {3, 2, 1},
			{1000, 1000, 1000, 1000, 1000, 1000}, {1, 2, 3, 4, 5, 6}, {0, 0, 0, 0, 0, 1}, {1000, 0, 0, 0, 0, 1},
		} {
			c := plain(frame, 8, shares)
			ownersAre(t, c, 0, owned(frame, shares))
			if got := len(plan.Owners(c, 0)); got != frame {
				t.Errorf("P13.1: Owners, shares %v: %d slots of %d", shares, got, frame)
			}
		}
	}
}

// P13.1: of no such plan there is none.
func TestOwnersNoSuchPlan(t *testing.T) {
	for many := 1; many <= mostPlans; many++ {
		c := plain(4, 2, slices.Repeat([][]int{{2, 1}}, many)...)
		for p := -5; p <= 9; p++ {
			want := []int{0, 0, 1, 0}
			if p < 0 || p >= many {
				want = nil
			}
			ownersAre(t, c, p, want)
		}
		for _, p := range wild {
			ownersAre(t, c, p, nil)
		}
	}
}

// P13.1, P13.2: of what isn't as it may be there is none, 0, false, whatever
// is wrong with it, at any plan and tick.
func TestMayNot(t *testing.T) {
	ticks := append([]int{0, 1, 2, 9, 10, 11, 29, 30, 31, 60, 1999}, wild...)
	for what, spoil := range spoils() {
		c := full()
		spoil(&c)
		for _, p := range []int{0, 1, 2, 3, -1} {
			if got := plan.Owners(c, p); len(got) != 0 {
				t.Errorf("P13.1: Owners, %s, plan %d: %v", what, p, got)
			}
		}
		for _, tick := range ticks {
			slot, epoch, begins := plan.Slot(c, tick), plan.Epoch(c, tick), plan.Begins(c, tick)
			if slot != 0 || epoch != 0 || begins {
				t.Errorf("P13.2: %s: tick %d: slot %d, epoch %d, begins %v", what, tick, slot, epoch, begins)
			}
		}
	}
}

// P13.1, P13.2: the conf that the others are spoilt from is as it may be.
func TestMay(t *testing.T) {
	ownersAre(t, full(), 0, fullOwners())
	ownersAre(t, full(), 1, []int{1, 2, 1, 2, 1, 2, 1, 2, 1, 2})
	ownersAre(t, full(), 2, nil)
	ticksAre(t, full(), 0, 0, 0, true)
	ticksAre(t, full(), 29, 9, 0, false)
	ticksAre(t, full(), 30, 0, 1, true)
	ticksAre(t, full(), 69, 9, 2, false)
}

// P13.1: Count, worked out by hand.
func TestCountByHand(t *testing.T) {
	for _, c := range []struct {
		owners  []int
		d, want int
	}{
		{nil, 0, 0},
		{[]int{}, 0, 0},
		{nil, -1, 0},
		{[]int{0}, 0, 1},
		{[]int{0}, 1, 0},
		{[]int{1}, 0, 0},
		{[]int{0, 1, 2, 0}, 0, 2},
		{[]int{0, 1, 2, 0}, 1, 1},
		{[]int{0, 1, 2, 0}, 2, 1},
		{[]int{0, 1, 2, 0}, 3, 0},
		{[]int{0, 1, 2, 0}, -1, 0},
		{[]int{0, 0, 0}, 0, 3},
		{[]int{1, 0, 0}, 0, 2},
		{[]int{0, 0, 1}, 0, 2},
		{[]int{1, 0, 1}, 0, 1},
		{[]int{0, 1, 1, 0, 0, 1, 0}, 0, 4},
		{[]int{-1, 7, -1}, -1, 2}, // who isn't a domain's is counted likewise
		{[]int{-1, 7, -1}, 7, 1},
		{[]int{6, 99, 6}, 6, 2},
		{[]int{math.MinInt, 0, math.MaxInt, math.MinInt}, math.MinInt, 2},
		{[]int{math.MinInt, 0, math.MaxInt, math.MinInt}, math.MaxInt, 1},
		{[]int{1 << 32, 1<<32 + 1, 1}, 0, 0},
		{[]int{1 << 32, 1<<32 + 1, 1}, 1, 1},
		{[]int{1 << 32, 1<<32 + 1, 1}, 1<<32 + 1, 1},
	} {
		if got := plan.Count(c.owners, c.d); got != c.want {
			t.Errorf("P13.1: Count(%v, %d): %d, want %d", c.owners, c.d, got, c.want)
		}
	}
}

// P13.1: all short lists, and lists at random that are longer than any frame.
func TestCount(t *testing.T) {
	check := func(owners []int) {
		had := map[int]int{}
		for _, d := range owners {
			had[d]++
		}
		for d := -1; d <= 4; d++ {
			if got := plan.Count(owners, d); got != had[d] {
				t.Errorf("P13.1: Count(%v, %d): %d, want %d", owners, d, got, had[d])
			}
		}
	}
	for length := range 8 {
		all := 1
		for range length {
			all *= 3
		}
		for code := range all {
			owners := make([]int, length)
			for at := range owners {
				owners[at] = code % 3
				code /= 3
			}
			check(owners)
		}
	}
	from := rand.New(rand.NewSource(131))
	for range 500 {
		owners := make([]int, from.Intn(300))
		for at := range owners {
			owners[at] = from.Intn(5)
		}
		check(owners)
	}
}

// P13.1: no limit is named to how many there are to count.
func TestCountOfMany(t *testing.T) {
	for _, length := range []int{63, 64, 65, 255, 256, 1 << 16, 1<<20 + 3} {
		owners := make([]int, length)
		owners[length/2] = 1
		owners[length-1] = 1
		if zeros, ones := plan.Count(owners, 0), plan.Count(owners, 1); zeros != length-2 || ones != 2 {
			t.Errorf("P13.1: Count of %d: %d and %d", length, zeros, ones)
		}
	}
}

// P13.1: each domain has as many slots as is its count of its shares.
func TestOwnersCounted(t *testing.T) {
	from := rand.New(rand.NewSource(132))
	for range 1000 {
		c := random(from)
		for p, shares := range c.Plans {
			owners := plan.Owners(c, p)
			had := make([]int, len(c.Domains))
			for d := range had {
				had[d] = plan.Count(owners, d)
			}
			if !slices.Equal(had, share.Counts(c.Frame, shares)) || !share.Exact(c.Frame, shares, had) {
				t.Errorf("P13.1: frame %d, shares %v: they have %v", c.Frame, shares, had)
			}
		}
	}
}

// P13.2: Slot, Epoch and Begins, worked out by hand.
func TestTicksByHand(t *testing.T) {
	for _, c := range []struct {
		frame, epoch, tick, slot, in int
		begins                       bool
	}{
		{4, 2, 0, 0, 0, true},
		{4, 2, 1, 1, 0, false},
		{4, 2, 3, 3, 0, false},
		{4, 2, 4, 0, 0, false}, // a frame begins, no epoch
		{4, 2, 7, 3, 0, false},
		{4, 2, 8, 0, 1, true},
		{4, 2, 9, 1, 1, false},
		{4, 2, 23, 3, 2, false},
		{4, 2, 24, 0, 3, true},
		{1, 1, 0, 0, 0, true},
		{1, 1, 1, 0, 1, true},
		{1, 1, 1999, 0, 1999, true},
		{1, 8, 7, 0, 0, false},
		{1, 8, 8, 0, 1, true},
		{64, 1, 63, 63, 0, false},
		{64, 1, 64, 0, 1, true},
		{64, 8, 511, 63, 0, false},
		{64, 8, 512, 0, 1, true},
		{64, 8, 448, 0, 0, false},
		{3, 5, 14, 2, 0, false},
		{3, 5, 15, 0, 1, true},
		{10, 3, 1 << 20, 6, 34952, false},
		{10, 3, 1 << 32, 6, 143165576, false},
		{5, 3, 15<<31 - 1, 4, 1<<31 - 1, false},
		{5, 3, 15 << 31, 0, 1 << 31, true},
		{5, 3, 15<<31 + 15<<20, 0, 1<<31 + 1<<20, true},
		{7, 1, math.MaxInt, 0, math.MaxInt / 7, true},
		{3, 1, math.MaxInt, 1, math.MaxInt / 3, false},
		{1, 1, math.MaxInt, 0, math.MaxInt, true},
		{2, 1, math.MaxInt, 1, math.MaxInt / 2, false},
		{64, 8, math.MaxInt, 63, math.MaxInt >> 9, false},
		{64, 8, math.MaxInt - 511, 0, math.MaxInt >> 9, true},
	} {
		ticksAre(t, plain(c.frame, c.epoch, []int{1}), c.tick, c.slot, c.in, c.begins)
		ticksAre(t, plain(c.frame, c.epoch, []int{0, 7}, []int{1, 0}), c.tick, c.slot, c.in, c.begins)
	}
}

// P13.2: of each frame and each epoch, tick by tick.
func TestTicks(t *testing.T) {
	for frame := 1; frame <= mostFrame; frame++ {
		for epoch := 1; epoch <= mostEpoch; epoch++ {
			c := plain(frame, epoch, []int{1})
			tick := 0
			for in := range 3 {
				for nth := range epoch {
					for slot := range frame {
						ticksAre(t, c, tick, slot, in, nth == 0 && slot == 0)
						tick++
					}
				}
			}
		}
	}
}

// P13.2: a tick below 0 is taken as 0.
func TestTicksBelow(t *testing.T) {
	for _, c := range []api.Conf{full(), plain(1, 1, []int{1}), plain(64, 8, []int{1}), plain(3, 1, []int{1}), plain(1, 7, []int{1})} {
		for tick := -2*c.Frame*c.Epoch - 1; tick <= 0; tick++ {
			ticksAre(t, c, tick, 0, 0, true)
		}
		for _, tick := range wild {
			if tick < 0 {
				ticksAre(t, c, tick, 0, 0, true)
			}
		}
	}
}

// P13.3: whose slot it is hangs on the frame and on that plan's shares alone:
// not on the epoch, the other plans, or what else the domains are.
func TestOwnersFixed(t *testing.T) {
	want := fullOwners()
	for what, change := range map[string]func(c *api.Conf){
		"another epoch":    func(c *api.Conf) { c.Epoch = 8 },
		"another plan":     func(c *api.Conf) { c.Plans[1] = []int{1000, 0, 7} },
		"no other plan":    func(c *api.Conf) { c.Plans = c.Plans[:1] },
		"one more plan":    func(c *api.Conf) { c.Plans = append(c.Plans, []int{0, 0, 1}) },
		"other amounts":    func(c *api.Conf) { c.Domains[2].Release = []int{10, 10} },
		"to nobody":        func(c *api.Conf) { c.Domains[2].To, c.Domains[2].Release = -1, nil },
		"to another":       func(c *api.Conf) { c.Domains[2].To = 1 },
		"other routes":     func(c *api.Conf) { c.Domains[0].Routes = [][]int{{2}} },
		"no routes":        func(c *api.Conf) { c.Domains[0].Routes, c.Domains[1].Routes = nil, nil },
		"other labels":     func(c *api.Conf) { c.Domains[2].Label = api.Label{Level: 255, Cats: math.MaxUint64} },
		"other quotas":     func(c *api.Conf) { c.Domains[1].Threads, c.Domains[1].Groups, c.Domains[1].Ring = 1, 0, 1 },
		"others of others": func(c *api.Conf) { c.Domains[0].Sends, c.Domains[0].Box = 0, 1 },
		"more of all":      func(c *api.Conf) { c.Plans[0] = []int{500, 300, 200} },
	} {
		c := full()
		change(&c)
		if got := plan.Owners(c, 0); !slices.Equal(got, want) {
			t.Errorf("P13.3: %s: %v, want %v", what, got, want)
		}
	}
}

// P13.3: which slot it is hangs on the frame, the epoch and the tick alone.
func TestTicksFixed(t *testing.T) {
	from := rand.New(rand.NewSource(133))
	for range 1000 {
		c := random(from)
		other := plain(c.Frame, c.Epoch, []int{1})
		tick := from.Intn(2000)
		ticksAre(t, c, tick, plan.Slot(other, tick), plan.Epoch(other, tick), plan.Begins(other, tick))
	}
}

// P13.3: what is asked in between, and in which order, changes nothing.
func TestFixedAhead(t *testing.T) {
	from := rand.New(rand.NewSource(134))
	confs := make([]api.Conf, 30)
	for at := range confs {
		confs[at] = random(from)
	}
	for range 3000 {
		c := confs[from.Intn(len(confs))]
		p, tick := from.Intn(len(c.Plans)), from.Intn(2000)
		ownersAre(t, c, p, owned(c.Frame, c.Plans[p]))
		slot, frames := tick%c.Frame, tick/c.Frame
		ticksAre(t, c, tick, slot, frames/c.Epoch, slot == 0 && frames%c.Epoch == 0)
	}
}

// P13.1, P13.2: what is handed in is left as it is, spare room too.
func TestLeftAsItIs(t *testing.T) {
	c := full()
	plans := [][]int{{5, 3, 2, 77, 78}, {0, 1, 1, 79}, {88}}
	c.Plans = [][]int{plans[0][:3], plans[1][:3], plans[2]}[:2]
	was, room := twice(c), rows(plans)
	owners := []int{0, 1, 0, 0, 77, 0}
	plan.Owners(c, 0)
	plan.Owners(c, 1)
	plan.Owners(c, 2)
	plan.Slot(c, 33)
	plan.Epoch(c, 33)
	plan.Begins(c, 33)
	if got := plan.Count(owners[:4], 0); got != 3 {
		t.Errorf("P13.1: Count: %d, want 3", got)
	}
	if !slices.Equal(owners, []int{0, 1, 0, 0, 77, 0}) {
		t.Errorf("P13.1: owners %v", owners)
	}
	same := slices.EqualFunc[[][]int, [][]int]
	if !same(c.Plans, was.Plans, slices.Equal) || !same(plans, room, slices.Equal) || len(c.Plans[:3][2]) != 1 {
		t.Errorf("P13.1: plans %v, in %v", c.Plans, plans)
	}
	for at, d := range c.Domains {
		w := was.Domains[at]
		if !same(d.Routes, w.Routes, slices.Equal) || !slices.Equal(d.Release, w.Release) || d.Label != w.Label || d.To != w.To {
			t.Errorf("P13.1: domain %d: %v, want %v", at, d, w)
		}
	}
}

// P13.1: an answer is new memory, its spare room too, and isn't touched by
// what becomes of another one or of what was handed in.
func TestAnswersApart(t *testing.T) {
	c := full()
	want := fullOwners()
	one, other := plan.Owners(c, 0), plan.Owners(c, 0)
	for at := range one[:cap(one)] {
		one[:cap(one)][at] = 99
	}
	if !slices.Equal(other, want) || !slices.Equal(c.Plans[0], []int{5, 3, 2}) || !slices.Equal(c.Plans[1], []int{0, 1, 1}) {
		t.Errorf("P13.1: %v, plans %v, after another answer was written to", other, c.Plans)
	}
	c.Plans[0][0] = 0
	if !slices.Equal(other, want) {
		t.Errorf("P13.1: %v after the plan was written to", other)
	}
	ownersAre(t, c, 0, owned(10, []int{0, 3, 2}))
	c.Plans[0][0] = 5
	ownersAre(t, c, 0, want)
}
