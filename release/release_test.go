package release_test

import (
	"math"
	"math/rand"
	"slices"
	"testing"

	"tontine/api"
	"tontine/conf"
	"tontine/plan"
	"tontine/release"
)

const (
	mostFrame   = 64
	mostDomains = 6
	mostLevels  = 4
	nobody      = -1
)

// wild are numbers at which a number might go wrong.
var wild = []int{
	math.MinInt, math.MinInt + 1, -1 << 40, -1 << 32, -1<<31 - 1, -1 << 31, -257, -256, -255, -65, -6, -5, -4, -3, -2, -1,
	255, 256, 257, 1<<31 - 1, 1 << 31, 1<<32 - 1, 1 << 32, 1<<32 + 1, 1<<32 + 2, 1 << 40, math.MaxInt - 1, math.MaxInt,
}

// plain has that many domains, each above the one ahead of it, that give
// nothing away.
func plain(frame, domains int) api.Conf {
	c := api.Conf{Frame: frame, Epoch: 1, Plans: [][]int{slices.Repeat([]int{1}, domains)}}
	for at := range domains {
		c.Domains = append(c.Domains, api.Domain{Label: api.Label{Level: at}, To: nobody, Threads: 1, Ring: 1, Box: 1})
	}
	return c
}

// gives has d give to that one, one of these amounts.
func gives(c api.Conf, d, to int, amounts ...int) api.Conf {
	c = twice(c)
	c.Domains[d].To, c.Domains[d].Release = to, amounts
	return c
}

// full has something in each of its parts: three that rise; the middle one
// gives to the first, the last one to the middle one.
func full() api.Conf {
	c := plain(6, 3)
	c.Epoch, c.Plans = 3, [][]int{{5, 3, 2}, {0, 1, 1}}
	c.Domains[0].Routes = [][]int{{1, 2}, {2}}
	c.Domains[1].Routes = [][]int{{2}}
	for at := range c.Domains {
		d := &c.Domains[at]
		d.Label.Cats = 1<<at - 1
		d.Threads, d.Groups, d.Ring, d.Sends, d.Box = 8, 4, 16, 8, 8
	}
	return gives(gives(c, 1, 0, 0, 1), 2, 1, 0, 1, 6, 2)
}

// twice is one and the same conf in memory of its own.
func twice(c api.Conf) api.Conf {
	c.Plans = rows(c.Plans)
	c.Domains = slices.Clone(c.Domains)
	for at := range c.Domains {
		c.Domains[at].Routes = rows(c.Domains[at].Routes)
		c.Domains[at].Release = slices.Clone(c.Domains[at].Release)
	}
	return c
}

func rows(of [][]int) [][]int {
	out := slices.Clone(of)
	for at := range out {
		out[at] = slices.Clone(out[at])
	}
	return out
}

// spoils gives, for each of conf's cases, a way to bring full to it. Frame and
// the number of domains stay, where it can be so.
func spoils() map[string]func(c *api.Conf) {
	return map[string]func(c *api.Conf){
		"no frame":                   func(c *api.Conf) { c.Frame = 0 },
		"a frame below 0":            func(c *api.Conf) { c.Frame = -6 },
		"a frame of 65":              func(c *api.Conf) { c.Frame = 65 },
		"a frame far too long":       func(c *api.Conf) { c.Frame = math.MaxInt },
		"no epoch":                   func(c *api.Conf) { c.Epoch = 0 },
		"an epoch of 9":              func(c *api.Conf) { c.Epoch = 9 },
		"no domains":                 func(c *api.Conf) { c.Domains = nil },
		"a domain fewer":             func(c *api.Conf) { c.Domains = c.Domains[:2] },
		"a domain more":              func(c *api.Conf) { c.Domains = append(c.Domains, c.Domains[0]) },
		"seven domains":              func(c *api.Conf) { *c = gives(plain(6, 7), 2, 1, 0, 1, 6, 2) },
		"a label above 255":          func(c *api.Conf) { c.Domains[2].Label.Level = 256 },
		"a label below 0":            func(c *api.Conf) { c.Domains[0].Label.Level = -1 },
		"no plans":                   func(c *api.Conf) { c.Plans = nil },
		"four plans":                 func(c *api.Conf) { c.Plans = slices.Repeat(c.Plans, 2) },
		"a plan too short":           func(c *api.Conf) { c.Plans[1] = []int{1, 1} },
		"a plan too long":            func(c *api.Conf) { c.Plans[1] = []int{1, 1, 1, 1} },
		"a plan of nothing":          func(c *api.Conf) { c.Plans[1] = []int{0, 0, 0} },
		"a plan of 1001":             func(c *api.Conf) { c.Plans[0][0] = 1001 },
		"a plan below 0":             func(c *api.Conf) { c.Plans[0][0] = -1 },
		"no threads":                 func(c *api.Conf) { c.Domains[0].Threads = 0 },
		"nine threads":               func(c *api.Conf) { c.Domains[1].Threads = 9 },
		"five groups":                func(c *api.Conf) { c.Domains[1].Groups = 5 },
		"no ring":                    func(c *api.Conf) { c.Domains[2].Ring = 0 },
		"nine sends":                 func(c *api.Conf) { c.Domains[2].Sends = 9 },
		"no box":                     func(c *api.Conf) { c.Domains[0].Box = 0 },
		"four routes":                func(c *api.Conf) { c.Domains[1].Routes = slices.Repeat(c.Domains[1].Routes, 4) },
		"a route of nobody":          func(c *api.Conf) { c.Domains[1].Routes = [][]int{nil} },
		"a route that falls":         func(c *api.Conf) { c.Domains[1].Routes = [][]int{{0}} },
		"amounts to nobody":          func(c *api.Conf) { c.Domains[2].To = nobody },
		"amounts of another":         func(c *api.Conf) { c.Domains[0].Release = []int{1} },
		"amounts to -2":              func(c *api.Conf) { c.Domains[2].To = -2 },
		"amounts to itself":          func(c *api.Conf) { c.Domains[2].To = 2 },
		"amounts to none there":      func(c *api.Conf) { c.Domains[2].To = 3 },
		"amounts upward":             func(c *api.Conf) { c.Domains[0].To, c.Domains[0].Release = 1, []int{1} },
		"amounts aside":              func(c *api.Conf) { c.Domains[2].Label.Cats = 0 },
		"amounts to one alike":       func(c *api.Conf) { c.Domains[2].Label = c.Domains[1].Label },
		"no amounts of another":      func(c *api.Conf) { c.Domains[1].Release = nil },
		"five amounts":               func(c *api.Conf) { c.Domains[2].Release = []int{0, 1, 6, 2, 0} },
		"five amounts of another":    func(c *api.Conf) { c.Domains[1].Release = []int{0, 1, 6, 2, 0} },
		"an amount above the frame":  func(c *api.Conf) { c.Domains[2].Release[0] = 7 },
		"an amount below 0":          func(c *api.Conf) { c.Domains[2].Release[0] = -1 },
		"another's above the frame":  func(c *api.Conf) { c.Domains[1].Release[0] = 7 },
		"all of it zero":             func(c *api.Conf) { *c = api.Conf{} },
		"nobody, and all that's his": func(c *api.Conf) { c.Plans, c.Domains = [][]int{{}}, nil },
	}
}

// amount is Amount by the chapter's words.
func amount(c api.Conf, d, level int) int {
	for at, domain := range c.Domains {
		for nth, many := range domain.Release {
			if at == d && nth == level {
				return many
			}
		}
	}
	return 0
}

// turned is Turn by the chapter's words: each domain's slots, by owners as they
// were, are listed, and those at the list's end are given.
func turned(c api.Conf, owners, levels []int) (has, freed []int) {
	has = slices.Clone(owners)
	freed = slices.Repeat([]int{nobody}, len(owners))
	for d := range c.Domains {
		var its []int
		for at, owner := range owners {
			if owner == d {
				its = append(its, at)
			}
		}
		for left := amount(c, d, levels[d]); left > 0 && len(its) > 0; left-- {
			last := its[len(its)-1]
			its = its[:len(its)-1]
			has[last], freed[last] = c.Domains[d].To, d
		}
	}
	return has, freed
}

func amountIs(t *testing.T, c api.Conf, d, level, want int) {
	t.Helper()
	if got := release.Amount(c, d, level); got != want {
		t.Errorf("P14.1: Amount(%v, %d, %d): %d, want %d", c, d, level, got, want)
	}
}

func turnIs(t *testing.T, c api.Conf, owners, levels, has, freed []int) {
	t.Helper()
	gotHas, gotFreed := release.Turn(c, owners, levels)
	if !slices.Equal(gotHas, has) || !slices.Equal(gotFreed, freed) {
		t.Errorf("P14.1: Turn(%v, %v, %v): %v by %v, want %v by %v", c, owners, levels, gotHas, gotFreed, has, freed)
	}
}

// turnOfWords holds Turn against the chapter's words.
func turnOfWords(t *testing.T, c api.Conf, owners, levels []int) {
	t.Helper()
	has, freed := turned(c, owners, levels)
	turnIs(t, c, owners, levels, has, freed)
}

func turnIsNone(t *testing.T, what string, c api.Conf, owners, levels []int) {
	t.Helper()
	if has, freed := release.Turn(c, owners, levels); len(has)+len(freed) != 0 {
		t.Errorf("P14.1: Turn, %s, %v, %v: %v by %v", what, owners, levels, has, freed)
	}
}

// random gives a conf that may be, in whatever order its labels rise.
func random(from *rand.Rand) api.Conf {
	c := plain(1+from.Intn(mostFrame), 1+from.Intn(mostDomains))
	for at := range c.Domains {
		c.Domains[at].Label = api.Label{Level: from.Intn(4), Cats: uint64(from.Intn(4))}
	}
	for at := range c.Domains {
		to := from.Intn(len(c.Domains))
		amounts := make([]int, 1+from.Intn(mostLevels))
		for nth := range amounts {
			amounts[nth] = from.Intn(min(c.Frame, []int{2, 9, mostFrame}[from.Intn(3)]) + 1)
		}
		if next := gives(c, at, to, amounts...); conf.Is(next) == nil {
			c = next
		}
	}
	return c
}

func someOwners(from *rand.Rand, c api.Conf) []int {
	owners := make([]int, c.Frame)
	for at := range owners {
		owners[at] = from.Intn(len(c.Domains))
	}
	return owners
}

// someLevels are of those that there are, most of them, and of others.
func someLevels(from *rand.Rand, c api.Conf) []int {
	levels := make([]int, len(c.Domains))
	for at := range levels {
		levels[at] = from.Intn(mostLevels+2) - 1
		if from.Intn(30) == 0 {
			levels[at] = wild[from.Intn(len(wild))]
		}
	}
	return levels
}

// each gives all lists of that length whose numbers are from least on.
func each(length, least, many int, then func(list []int)) {
	list := slices.Repeat([]int{least}, length)
	for {
		then(slices.Clone(list))
		at := 0
		for at < length && list[at] == least+many-1 {
			list[at] = least
			at++
		}
		if at == length {
			return
		}
		list[at]++
	}
}

// P14.1: Amount is that one of d's amounts, in the order in which they stand.
func TestAmountByHand(t *testing.T) {
	c := full()
	for d, amounts := range [][]int{{}, {0, 1}, {0, 1, 6, 2}} {
		for level := -3; level <= 9; level++ {
			want := 0
			if level >= 0 && level < len(amounts) {
				want = amounts[level]
			}
			amountIs(t, c, d, level, want)
		}
		for _, level := range wild {
			amountIs(t, c, d, level, 0)
		}
	}
}

// P14.1: the amounts at the limits: none, all of the longest frame; one level,
// as many as may be.
func TestAmountAtLimits(t *testing.T) {
	c := gives(plain(mostFrame, mostDomains), 5, 0, 64, 63, 0, 64)
	c = gives(c, 1, 0, 64)
	for level, want := range []int{64, 63, 0, 64, 0} {
		amountIs(t, c, 5, level, want)
	}
	for level, want := range []int{64, 0, 0, 0} {
		amountIs(t, c, 1, level, want)
	}
	one := gives(plain(1, 2), 1, 0, 1, 0, 0, 1)
	for level, want := range []int{1, 0, 0, 1, 0} {
		amountIs(t, one, 1, level, want)
	}
}

// P14.1: who isn't a domain of it gives nothing away.
func TestAmountOfNobody(t *testing.T) {
	for domains := 2; domains <= mostDomains; domains++ {
		c := plain(6, domains)
		for d := 1; d < domains; d++ {
			c = gives(c, d, 0, 3, 2, 1)
		}
		for level := -1; level <= 3; level++ {
			for _, d := range append([]int{0, domains, domains + 1, 7, 64, 65}, wild...) {
				amountIs(t, c, d, level, 0)
			}
		}
	}
}

// P14.1: Amount hangs on nothing but that place of d's amounts.
func TestAmount(t *testing.T) {
	from := rand.New(rand.NewSource(14))
	for range 2000 {
		c := random(from)
		for d := -2; d <= mostDomains+1; d++ {
			for level := -2; level <= mostLevels+1; level++ {
				amountIs(t, c, d, level, amount(c, d, level))
			}
		}
	}
}

// P14.1: of what isn't as it may be there is 0, none, none, whatever is wrong
// with it.
func TestMayNot(t *testing.T) {
	for what, spoil := range spoils() {
		c := full()
		spoil(&c)
		for d := -1; d <= 7; d++ {
			for level := -1; level <= 5; level++ {
				if got := release.Amount(c, d, level); got != 0 {
					t.Errorf("P14.1: Amount, %s, %d, %d: %d", what, d, level, got)
				}
			}
		}
		for _, level := range []int{-1, 0, 1, 2} {
			for _, owners := range [][]int{nil, {}, {0, 1, 2, 0, 1, 0}, {0, 0, 0, 0, 0, 0}, make([]int, 65)} {
				for _, levels := range [][]int{nil, {level}, {level, level}, {level, level, level}, slices.Repeat([]int{level}, 4), slices.Repeat([]int{level}, 7)} {
					turnIsNone(t, what, c, owners, levels)
				}
			}
		}
	}
}

// P14.1: the conf that the others are spoilt from is as it may be.
func TestMay(t *testing.T) {
	amountIs(t, full(), 1, 1, 1)
	amountIs(t, full(), 2, 2, 6)
	turnIs(t, full(), []int{0, 1, 2, 0, 1, 0}, []int{0, 0, 0}, []int{0, 1, 2, 0, 1, 0}, []int{-1, -1, -1, -1, -1, -1})
	turnIs(t, full(), []int{0, 1, 2, 0, 1, 0}, []int{0, 1, 1}, []int{0, 1, 1, 0, 0, 0}, []int{-1, -1, 2, -1, 1, -1})
}

// P14.1: Turn, worked out by hand: 1 gives one to 0, 2 gives 1, 6 or 2 to 1.
func TestTurnByHand(t *testing.T) {
	for _, c := range []struct{ owners, levels, has, freed []int }{
		{[]int{2, 2, 2, 2, 2, 2}, []int{0, 0, 0}, []int{2, 2, 2, 2, 2, 2}, []int{-1, -1, -1, -1, -1, -1}}, // an amount of 0
		{[]int{2, 2, 2, 2, 2, 2}, []int{0, 0, 1}, []int{2, 2, 2, 2, 2, 1}, []int{-1, -1, -1, -1, -1, 2}},  // the last one
		{[]int{2, 2, 2, 2, 2, 2}, []int{0, 0, 3}, []int{2, 2, 2, 2, 1, 1}, []int{-1, -1, -1, -1, 2, 2}},   // the last two
		{[]int{2, 2, 2, 2, 2, 2}, []int{0, 0, 2}, []int{1, 1, 1, 1, 1, 1}, []int{2, 2, 2, 2, 2, 2}},       // just all
		{[]int{2, 2, 2, 2, 2, 2}, []int{0, 0, 4}, []int{2, 2, 2, 2, 2, 2}, []int{-1, -1, -1, -1, -1, -1}}, // no such level
		{[]int{2, 2, 2, 2, 2, 2}, []int{0, 0, -1}, []int{2, 2, 2, 2, 2, 2}, []int{-1, -1, -1, -1, -1, -1}},
		{[]int{2, 2, 2, 2, 2, 2}, []int{3, 1, 1}, []int{2, 2, 2, 2, 2, 1}, []int{-1, -1, -1, -1, -1, 2}}, // what 1 is given it keeps
		{[]int{2, 0, 2, 0, 2, 0}, []int{0, 0, 3}, []int{2, 0, 1, 0, 1, 0}, []int{-1, -1, 2, -1, 2, -1}},  // of its own
		{[]int{0, 2, 0, 2, 0, 2}, []int{0, 0, 3}, []int{0, 2, 0, 1, 0, 1}, []int{-1, -1, -1, 2, -1, 2}},
		{[]int{2, 0, 0, 0, 0, 0}, []int{0, 0, 1}, []int{1, 0, 0, 0, 0, 0}, []int{2, -1, -1, -1, -1, -1}}, // all it has
		{[]int{2, 0, 0, 0, 0, 0}, []int{0, 0, 3}, []int{1, 0, 0, 0, 0, 0}, []int{2, -1, -1, -1, -1, -1}}, // it has fewer
		{[]int{2, 0, 0, 0, 0, 2}, []int{0, 0, 2}, []int{1, 0, 0, 0, 0, 1}, []int{2, -1, -1, -1, -1, 2}},
		{[]int{0, 0, 0, 0, 0, 0}, []int{0, 1, 2}, []int{0, 0, 0, 0, 0, 0}, []int{-1, -1, -1, -1, -1, -1}}, // it has none
		{[]int{1, 2, 1, 2, 0, 0}, []int{0, 1, 1}, []int{1, 2, 0, 1, 0, 0}, []int{-1, -1, 1, 2, -1, -1}},   // 1's last own one
		{[]int{2, 1, 2, 1, 0, 0}, []int{0, 1, 1}, []int{2, 1, 1, 0, 0, 0}, []int{-1, -1, 2, 1, -1, -1}},
		{[]int{1, 2, 2, 2, 2, 2}, []int{0, 1, 2}, []int{0, 1, 1, 1, 1, 1}, []int{1, 2, 2, 2, 2, 2}},
		{[]int{2, 2, 2, 2, 2, 1}, []int{0, 1, 2}, []int{1, 1, 1, 1, 1, 0}, []int{2, 2, 2, 2, 2, 1}},
		{[]int{1, 1, 1, 1, 1, 1}, []int{9, 1, 9}, []int{1, 1, 1, 1, 1, 0}, []int{-1, -1, -1, -1, -1, 1}},
	} {
		turnIs(t, full(), c.owners, c.levels, c.has, c.freed)
	}
}

// P14.1: who gives may stand ahead of who is given, or behind, in any order: by
// owners as they were nothing is given on.
func TestTurnGivesNothingOn(t *testing.T) {
	each(3, 0, 3, func(order []int) {
		if order[0] == order[1] || order[1] == order[2] || order[0] == order[2] {
			return
		}
		c := plain(6, 3)
		for place, level := range order {
			c.Domains[place].Label.Level = level
		}
		low, mid, high := slices.Index(order, 0), slices.Index(order, 1), slices.Index(order, 2)
		c = gives(gives(c, mid, low, 6), high, mid, 6)
		turnIs(t, c, slices.Repeat([]int{high}, 6), []int{0, 0, 0}, slices.Repeat([]int{mid}, 6), slices.Repeat([]int{high}, 6))
		turnIs(t, c, slices.Repeat([]int{mid}, 6), []int{0, 0, 0}, slices.Repeat([]int{low}, 6), slices.Repeat([]int{mid}, 6))
		turnIs(t, c, []int{low, mid, high, low, mid, high}, []int{0, 0, 0}, []int{low, low, mid, low, low, mid}, []int{-1, mid, high, -1, mid, high})
		c.Domains[mid].Release[0] = 1
		turnIs(t, c, []int{low, mid, high, mid, high, high}, []int{0, 0, 0}, []int{low, mid, mid, low, mid, mid}, []int{-1, -1, high, mid, high, high})
	})
}

// P14.1: several give to one, each to its own.
func TestTurnSeveral(t *testing.T) {
	c := plain(12, mostDomains)
	for d, to := range []int{nobody, 0, 0, 1, 0, 3} {
		if to != nobody {
			c = gives(c, d, to, 0, 1, 2)
		}
	}
	owners := []int{0, 1, 2, 3, 4, 5, 5, 4, 3, 2, 1, 0}
	turnIs(t, c, owners, []int{1, 1, 1, 1, 1, 1},
		[]int{0, 1, 2, 3, 4, 5, 3, 0, 1, 0, 0, 0}, []int{-1, -1, -1, -1, -1, -1, 5, 4, 3, 2, 1, -1})
	turnIs(t, c, owners, []int{2, 2, 2, 2, 2, 2},
		[]int{0, 0, 0, 1, 0, 3, 3, 0, 1, 0, 0, 0}, []int{-1, 1, 2, 3, 4, 5, 5, 4, 3, 2, 1, -1})
	turnIs(t, c, owners, []int{2, 0, 1, 3, 2, -1},
		[]int{0, 1, 2, 3, 0, 5, 5, 0, 3, 0, 1, 0}, []int{-1, -1, -1, -1, 4, -1, -1, 4, -1, 2, -1, -1})
}

// P14.1: each frame of up to 5 slots of three, at each row of levels.
func TestTurnSmall(t *testing.T) {
	for frame := 1; frame <= 5; frame++ {
		c := plain(frame, 3)
		c = gives(c, 1, 0, 0, 1, min(2, frame))
		c = gives(c, 2, 1, min(1, frame), min(3, frame))
		other := gives(gives(c, 2, 0, frame, 0, min(2, frame)), 1, 0, frame)
		each(frame, 0, 3, func(owners []int) {
			each(3, -1, 4, func(levels []int) {
				turnOfWords(t, c, owners, levels)
				turnOfWords(t, other, owners, levels)
			})
		})
	}
}

// P14.1: confs, owners and levels at random.
func TestTurn(t *testing.T) {
	from := rand.New(rand.NewSource(141))
	for range 4000 {
		c := random(from)
		for range 5 {
			turnOfWords(t, c, someOwners(from, c), someLevels(from, c))
		}
		turnOfWords(t, c, plan.Owners(c, 0), someLevels(from, c))
	}
}

// P14.1: the longest frame: none of it, one slot, all but one, all.
func TestTurnLongest(t *testing.T) {
	c := gives(plain(mostFrame, mostDomains), 5, 0, 0, 1, 63, 64)
	owners := slices.Repeat([]int{5}, mostFrame)
	for level, many := range []int{0, 1, 63, 64} {
		has, freed := slices.Clone(owners), slices.Repeat([]int{nobody}, mostFrame)
		for at := mostFrame - many; at < mostFrame; at++ {
			has[at], freed[at] = 0, 5
		}
		turnIs(t, c, owners, []int{0, 0, 0, 0, 0, level}, has, freed)
	}
	one := gives(plain(1, 2), 1, 0, 1)
	turnIs(t, one, []int{1}, []int{0, 0}, []int{0}, []int{1})
	turnIs(t, one, []int{1}, []int{0, 1}, []int{1}, []int{nobody})
	turnIs(t, plain(1, 1), []int{0}, []int{0}, []int{0}, []int{nobody})
}

// P14.1: owners that aren't Frame places give none, none, whatever their spare
// room holds.
func TestTurnOfOtherFrames(t *testing.T) {
	c, levels := full(), []int{0, 1, 1}
	for length := range 70 {
		owners := make([]int, length, 100)
		if length != c.Frame {
			turnIsNone(t, "of another length", c, owners, levels)
		}
	}
	turnIsNone(t, "nil", c, nil, levels)
	for _, frame := range []int{1, 63, 64} {
		c.Frame, c.Domains[1].Release, c.Domains[2].Release = frame, []int{0, 1}, []int{0, 1}
		turnOfWords(t, c, make([]int, frame), levels)
		turnIsNone(t, "one fewer", c, make([]int, frame-1), levels)
		turnIsNone(t, "one more", c, make([]int, frame+1), levels)
	}
}

// P14.1: an owner that isn't a domain's place gives none, none, at any slot.
func TestTurnOfNobody(t *testing.T) {
	for domains := 1; domains <= mostDomains; domains++ {
		c := plain(6, domains)
		levels := make([]int, domains)
		for _, wrong := range append([]int{domains, domains + 1, 7}, wild...) {
			for at := range c.Frame {
				owners := make([]int, c.Frame)
				owners[at] = wrong
				turnIsNone(t, "of nobody", c, owners, levels)
			}
		}
		for d := range domains {
			turnOfWords(t, c, slices.Repeat([]int{d}, 6), levels)
		}
	}
}

// P14.1: levels must be one for each domain.
func TestTurnOfOtherLevels(t *testing.T) {
	for domains := 1; domains <= mostDomains; domains++ {
		c := plain(6, domains)
		for many := range 9 {
			if many != domains {
				turnIsNone(t, "levels", c, make([]int, 6), make([]int, many, 20))
			}
		}
		turnIsNone(t, "nil levels", c, make([]int, 6), nil)
		turnOfWords(t, c, make([]int, 6), make([]int, domains))
	}
}

// P14.1: a level may be any number: of none there is nothing is given away.
func TestTurnOfWildLevels(t *testing.T) {
	owners := []int{0, 1, 2, 1, 2, 2}
	for _, level := range append([]int{4, 5, 64}, wild...) {
		turnIs(t, full(), owners, []int{level, level, level}, owners, []int{-1, -1, -1, -1, -1, -1})
		turnIs(t, full(), owners, []int{level, 1, level}, []int{0, 1, 2, 0, 2, 2}, []int{-1, -1, -1, 1, -1, -1})
		turnIs(t, full(), owners, []int{level, level, 1}, []int{0, 1, 2, 1, 2, 1}, []int{-1, -1, -1, -1, -1, 2})
	}
}

// P14.2: whatever the level, what a domain gives away is one of its few
// amounts, as far as it has as many slots, or nothing.
func TestOneOfAFew(t *testing.T) {
	from := rand.New(rand.NewSource(142))
	for range 2000 {
		c := random(from)
		owners, levels := someOwners(from, c), someLevels(from, c)
		has, freed := release.Turn(c, owners, levels)
		for d, domain := range c.Domains {
			gave, had := plan.Count(freed, d), plan.Count(owners, d)
			few := []int{0}
			for _, many := range domain.Release {
				few = append(few, min(many, had))
			}
			if !slices.Contains(few, gave) || gave != min(had, release.Amount(c, d, levels[d])) {
				t.Errorf("P14.2: %d gives %d of %d, amounts %v, level %d", d, gave, had, domain.Release, levels[d])
			}
		}
		for at, d := range freed {
			if d == nobody && has[at] != owners[at] || d != nobody && (owners[at] != d || has[at] != c.Domains[d].To) {
				t.Errorf("P14.2: slot %d of %d: %d has it, by %d", at, owners[at], has[at], d)
			}
		}
	}
}

// P14.2: nothing but its amount tells what a domain gives away: levels of one
// amount are alike, and what others give away changes nothing of it.
func TestNothingButTheAmount(t *testing.T) {
	from := rand.New(rand.NewSource(143))
	for range 2000 {
		c := random(from)
		owners, levels := someOwners(from, c), someLevels(from, c)
		has, freed := release.Turn(c, owners, levels)
		d := from.Intn(len(c.Domains))
		others := someLevels(from, c)
		others[d] = levels[d]
		otherHas, otherFreed := release.Turn(c, owners, others)
		for at, owner := range owners {
			if owner == d && (has[at] != otherHas[at] || freed[at] != otherFreed[at]) {
				t.Errorf("P14.2: slot %d of %d: levels %v, %v: by %d, %d", at, d, levels, others, freed[at], otherFreed[at])
			}
		}
		alike := slices.Clone(levels)
		for level := -1; level <= mostLevels; level++ {
			alike[d] = level
			if release.Amount(c, d, level) == release.Amount(c, d, levels[d]) {
				turnIs(t, c, owners, alike, has, freed)
			}
		}
	}
}

// P14.2: what is given away hangs on the frame, on who gives how much to whom,
// and on nothing else of the conf.
func TestNothingElse(t *testing.T) {
	owners, levels := []int{0, 1, 2, 1, 2, 2}, []int{0, 1, 3}
	has, freed := []int{0, 1, 2, 0, 1, 1}, []int{-1, -1, -1, 1, 2, 2}
	for what, change := range map[string]func(c *api.Conf){
		"nothing":       func(c *api.Conf) {},
		"another epoch": func(c *api.Conf) { c.Epoch = 8 },
		"other plans":   func(c *api.Conf) { c.Plans = [][]int{{1000, 0, 7}} },
		"no routes":     func(c *api.Conf) { c.Domains[0].Routes, c.Domains[1].Routes = nil, nil },
		"other labels":  func(c *api.Conf) { c.Domains[2].Label = api.Label{Level: 255, Cats: math.MaxUint64} },
		"other quotas":  func(c *api.Conf) { c.Domains[1].Threads, c.Domains[1].Groups, c.Domains[1].Ring = 1, 0, 1 },
		"other amounts": func(c *api.Conf) { c.Domains[2].Release = []int{6, 6, 6, 2} },
	} {
		c := full()
		change(&c)
		gotHas, gotFreed := release.Turn(c, owners, levels)
		if !slices.Equal(gotHas, has) || !slices.Equal(gotFreed, freed) || release.Amount(c, 2, 3) != 2 {
			t.Errorf("P14.2: %s: %v by %v", what, gotHas, gotFreed)
		}
	}
}

// P14.2: what is asked in between, and in which order, changes nothing.
func TestAskedAgain(t *testing.T) {
	from := rand.New(rand.NewSource(144))
	confs := make([]api.Conf, 20)
	for at := range confs {
		confs[at] = random(from)
	}
	for range 2000 {
		c := confs[from.Intn(len(confs))]
		d, level := from.Intn(mostDomains), from.Intn(mostLevels)
		amountIs(t, c, d, level, amount(c, d, level))
		turnOfWords(t, c, someOwners(from, c), someLevels(from, c))
		turnIsNone(t, "of nothing", c, nil, nil)
	}
}

// P14.1: what is handed in is left as it is, spare room too.
func TestLeftAsItIs(t *testing.T) {
	c := full()
	amounts := []int{0, 1, 6, 2, 77, 78}
	c.Domains[2].Release = amounts[:4]
	was := twice(c)
	owners, levels := []int{0, 1, 2, 1, 2, 2, 77, 2}, []int{0, 1, 2, 78, 2}
	for level := -1; level <= 5; level++ {
		release.Amount(c, 2, level)
		levels[2] = level
		release.Turn(c, owners[:6], levels[:3])
		if !slices.Equal(levels, []int{0, 1, level, 78, 2}) {
			t.Errorf("P14.1: levels %v", levels)
		}
	}
	if !slices.Equal(owners, []int{0, 1, 2, 1, 2, 2, 77, 2}) || !slices.Equal(amounts, []int{0, 1, 6, 2, 77, 78}) {
		t.Errorf("P14.1: owners %v, amounts %v", owners, amounts)
	}
	if !conf.Same(c, was) {
		t.Errorf("P14.1: %v, was %v", c, was)
	}
}

// P14.1: answers are new memory, their spare room too: neither list of one is
// touched by what becomes of the other one, of another answer or of what was
// handed in.
func TestAnswersApart(t *testing.T) {
	for _, levels := range [][]int{{0, 0, 0}, {0, 1, 3}} {
		c, owners := full(), []int{0, 1, 2, 1, 2, 2}
		has, freed := turned(c, owners, levels)
		oneHas, oneFreed := release.Turn(c, owners, levels)
		otherHas, otherFreed := release.Turn(c, owners, levels)
		spoil(oneHas)
		if !slices.Equal(oneFreed, freed) {
			t.Errorf("P14.1: %v after the other list was written to, want %v", oneFreed, freed)
		}
		spoil(oneFreed)
		if !slices.Equal(owners, []int{0, 1, 2, 1, 2, 2}) || len(levels) != 3 || levels[0] != 0 || !conf.Same(c, full()) {
			t.Errorf("P14.1: owners %v, levels %v after an answer was written to", owners, levels)
		}
		spoil(owners)
		if !slices.Equal(otherHas, has) || !slices.Equal(otherFreed, freed) {
			t.Errorf("P14.1: %v by %v after all else was written to, want %v by %v", otherHas, otherFreed, has, freed)
		}
	}
}

// spoil writes to a list, and to its spare room.
func spoil(list []int) {
	list = list[:cap(list)]
	for at := range list {
		list[at] = 99
	}
}
