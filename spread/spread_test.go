package spread_test

import (
	"math"
	"math/big"
	"math/rand"
	"slices"
	"testing"

	"tontine/spread"
)

const (
	mostFrame   = 64
	mostDomains = 6
)

func sum(list []int) int {
	all := 0
	for _, n := range list {
		all += n
	}
	return all
}

type quantum struct {
	domain int
	wants  *big.Rat
}

// ordered is Slots by the chapter's words, in fractions: all quanta, domain by
// domain, in the order of where they want to be.
func ordered(counts []int) []int {
	frame := sum(counts)
	var all []quantum
	for d, count := range counts {
		for k := range count {
			all = append(all, quantum{d, big.NewRat(int64((2*k+1)*frame), int64(2*count))})
		}
	}
	slices.SortStableFunc(all, func(a, b quantum) int { return a.wants.Cmp(b.wants) })
	var slots []int
	for _, one := range all {
		slots = append(slots, one.domain)
	}
	return slots
}

// walked is Gap by the chapter's words: from each of d's slots on, slot by
// slot, until the next one of d.
func walked(slots []int, d int) (least, greatest int) {
	for from, owner := range slots {
		if owner != d {
			continue
		}
		way := 1
		for slots[(from+way)%len(slots)] != d {
			way++
		}
		if least == 0 || way < least {
			least = way
		}
		greatest = max(greatest, way)
	}
	return least, greatest
}

func slotsAgree(t *testing.T, counts []int) {
	t.Helper()
	if got, want := spread.Slots(counts), ordered(counts); !slices.Equal(got, want) {
		t.Errorf("P12.1: Slots(%v): %v, want %v", counts, got, want)
	}
}

func gapAgrees(t *testing.T, slots []int, d int) {
	t.Helper()
	least, greatest := spread.Gap(slots, d)
	wantLeast, wantGreatest := walked(slots, d)
	if least != wantLeast || greatest != wantGreatest {
		t.Errorf("P12.2: Gap(%v, %d): %d, %d, want %d, %d", slots, d, least, greatest, wantLeast, wantGreatest)
	}
}

// each goes through all lists of that length of numbers from least to most.
func each(length, least, most int, do func([]int)) {
	list := make([]int, length)
	var fill func(int)
	fill = func(place int) {
		if place == length {
			do(list)
			return
		}
		for n := least; n <= most; n++ {
			list[place] = n
			fill(place + 1)
		}
	}
	fill(0)
}

// random gives counts that may be, of frames of any length, 0 among them.
func random(from *rand.Rand) []int {
	counts := make([]int, 1+from.Intn(mostDomains))
	frame := 1 + from.Intn(mostFrame)
	if from.Intn(3) == 0 {
		frame = mostFrame
	}
	for left := frame; left > 0; {
		some := 1 + from.Intn(left)
		counts[from.Intn(len(counts))] += some
		left -= some
	}
	return counts
}

// P12.1: Slots, worked out by hand.
func TestSlotsByHand(t *testing.T) {
	for _, c := range []struct{ counts, want []int }{
		{[]int{2, 2}, []int{0, 1, 0, 1}},
		{[]int{1}, []int{0}},
		{[]int{5}, []int{0, 0, 0, 0, 0}},
		{[]int{0, 3}, []int{1, 1, 1}},
		{[]int{3, 0}, []int{0, 0, 0}},
		{[]int{0, 0, 0, 0, 0, 1}, []int{5}},
		{[]int{1, 0, 0, 0, 0, 0}, []int{0}},
		{[]int{1, 1, 1, 1, 1, 1}, []int{0, 1, 2, 3, 4, 5}},
		{[]int{2, 0, 2, 0, 2, 0}, []int{0, 2, 4, 0, 2, 4}},
		{[]int{1, 3}, []int{1, 0, 1, 1}},                         // 0 and 1 both want to be at 2
		{[]int{3, 1}, []int{0, 0, 1, 0}},                         // likewise
		{[]int{1, 2}, []int{1, 0, 1}},                            // 3 halves; 3 and 9 quarters
		{[]int{2, 1}, []int{0, 1, 0}},                            // likewise
		{[]int{1, 1, 2}, []int{2, 0, 1, 2}},                      // 2; 2; 1, 3
		{[]int{1, 2, 1}, []int{1, 0, 2, 1}},                      // 2; 1, 3; 2
		{[]int{1, 3, 5}, []int{2, 1, 2, 0, 1, 2, 2, 1, 2}},       // all want to be at 9 halves
		{[]int{5, 3, 1}, []int{0, 1, 0, 0, 1, 2, 0, 1, 0}},       // likewise
		{[]int{4, 3, 3}, []int{0, 1, 2, 0, 1, 2, 0, 1, 2, 0}},    // 3.75 is ahead of 5, 8.33 of 8.75
		{[]int{3, 3, 4}, []int{2, 0, 1, 2, 0, 1, 2, 0, 1, 2}},    // likewise
		{[]int{5, 2}, []int{0, 1, 0, 0, 0, 1, 0}},                // 7, 21, 35, 49, 63 tenths; 7, 21 quarters
		{[]int{2, 5}, []int{1, 0, 1, 1, 1, 0, 1}},                // likewise
		{[]int{7, 2, 1}, []int{0, 0, 1, 0, 0, 2, 0, 1, 0, 0}},    // 0 and 2 both want to be at 5; 7.5 is ahead of 7.86
		{[]int{1, 2, 7}, []int{2, 2, 1, 2, 0, 2, 2, 1, 2, 2}},    // likewise
		{[]int{2, 4, 2, 1}, []int{1, 0, 2, 1, 3, 1, 0, 2, 1}},    // 9, 27 quarters; 9, 27, 45, 63 eighths; 9 halves
		{[]int{1, 2, 4, 2}, []int{2, 1, 3, 2, 0, 2, 1, 3, 2}},    // likewise
		{[]int{6, 1, 1}, []int{0, 0, 0, 1, 2, 0, 0, 0}},          // 2, 6, 10, 14, 18, 22 thirds; 4; 4
		{[]int{1, 6, 1}, []int{1, 1, 1, 0, 2, 1, 1, 1}},          // likewise
		{[]int{0, 6, 0, 1, 0, 1}, []int{1, 1, 1, 3, 5, 1, 1, 1}}, // likewise
	} {
		if got := spread.Slots(c.counts); !slices.Equal(got, c.want) {
			t.Errorf("P12.1: Slots(%v): %v, want %v", c.counts, got, c.want)
		}
	}
}

// P12.1: the greatest frame, of one domain and of one beside it.
func TestSlotsLongest(t *testing.T) {
	for d := range mostDomains {
		counts := make([]int, mostDomains)
		counts[d] = mostFrame
		if got := spread.Slots(counts); !slices.Equal(got, slices.Repeat([]int{d}, mostFrame)) {
			t.Errorf("P12.1: Slots(%v): %v", counts, got)
		}
	}
	for first := range mostFrame + 1 {
		slotsAgree(t, []int{first, mostFrame - first})
	}
	slotsAgree(t, []int{11, 11, 11, 11, 10, 10})
}

// P12.1: all small counts, of each length.
func TestSlotsSmall(t *testing.T) {
	for _, c := range []struct{ length, most int }{{1, 64}, {2, 32}, {3, 9}, {4, 5}, {5, 3}, {6, 2}} {
		each(c.length, 0, c.most, func(counts []int) {
			if sum(counts) > 0 {
				slotsAgree(t, counts)
			}
		})
	}
}

// P12.1: counts at random, up to the greatest frame.
func TestSlots(t *testing.T) {
	from := rand.New(rand.NewSource(12))
	for range 3000 {
		slotsAgree(t, random(from))
	}
}

// P12.1: each domain has as many slots as its count.
func TestSlotsCounted(t *testing.T) {
	from := rand.New(rand.NewSource(121))
	for range 2000 {
		counts := random(from)
		had := make([]int, len(counts))
		for _, d := range spread.Slots(counts) {
			had[d]++
		}
		if !slices.Equal(had, counts) {
			t.Errorf("P12.1: Slots(%v): they have %v", counts, had)
		}
	}
}

// P12.1: of counts that may not be there is none.
func TestSlotsMayNot(t *testing.T) {
	for _, counts := range [][]int{
		nil,
		{},
		{0},
		{0, 0},
		{0, 0, 0, 0, 0, 0},
		{0, 0, 0, 0, 0, 0, 0},
		{1, 0, 0, 0, 0, 0, 0},
		{0, 0, 0, 0, 0, 0, 1},
		{1, 1, 1, 1, 1, 1, 1},
		{65},
		{65, 0},
		{0, 65},
		{65, -1},
		{-1, 65},
		{66, -3, 1},
		{64, 1},
		{1, 64},
		{64, 64, 64, 64, 64, 64},
		{40, 25},
		{11, 11, 11, 11, 11, 10},
		{0, 0, 0, 0, 1, 64},
		{-1},
		{-1, -1},
		{-1, 1},
		{-1, 5},
		{5, -1},
		{3, -1, 3},
		{-64, 64, 1},
		{1 << 32},
		{1<<32 + 1},
		{1<<32 + 1, 1},
		{math.MaxInt},
		{math.MinInt},
		{math.MaxInt, 1},
		{math.MaxInt, math.MinInt, 2},
		{math.MinInt, math.MinInt},
		{math.MinInt, math.MinInt, 4},
		{math.MaxInt, math.MaxInt, 4},
		{1 << 62, 1 << 62, 1 << 62, 1 << 62, 5},
	} {
		if got := spread.Slots(counts); len(got) != 0 {
			t.Errorf("P12.1: Slots(%v): %v, want none", counts, got)
		}
	}
}

// P12.1: one count that may not be is told at each place of each length.
func TestSlotsMayNotAnywhere(t *testing.T) {
	for length := 1; length <= mostDomains; length++ {
		for place := range length {
			counts := slices.Repeat([]int{7}, length)
			for _, wrong := range []int{math.MinInt, -65, -7, -2, -1, 65, 66, 1 << 32, math.MaxInt} {
				if counts[place] = wrong; len(spread.Slots(counts)) != 0 {
					t.Errorf("P12.1: Slots(%v): %v, want none", counts, spread.Slots(counts))
				}
			}
			rest := 7 * (length - 1)
			for count := range mostFrame + 1 {
				want := rest + count
				if want > mostFrame {
					want = 0
				}
				if counts[place] = count; len(spread.Slots(counts)) != want {
					t.Errorf("P12.1: Slots(%v): %v, want %d slots", counts, spread.Slots(counts), want)
				}
			}
		}
	}
}

// P12.1: of many domains more than may be there is none.
func TestFarTooMany(t *testing.T) {
	for _, length := range []int{7, 8, 64, 65, 256, 262, 1 << 16, 1<<16 + 6} {
		counts := make([]int, length)
		for _, place := range []int{0, 5, 6, length - 1} {
			counts[place] = 1
			if got := spread.Slots(counts); len(got) != 0 {
				t.Errorf("P12.1: Slots of %d counts: %v, want none", length, got)
			}
		}
	}
}

// P12.2: Gap, worked out by hand.
func TestGapByHand(t *testing.T) {
	for _, c := range []struct {
		slots           []int
		d               int
		least, greatest int
	}{
		{[]int{0, 1, 0, 1}, 0, 2, 2},
		{[]int{0, 1, 0, 1}, 1, 2, 2},
		{[]int{0, 1, 0, 1}, 2, 0, 0},
		{[]int{0, 1, 0, 1}, -1, 0, 0},
		{nil, 0, 0, 0},
		{[]int{}, 0, 0, 0},
		{[]int{0}, 0, 1, 1},
		{[]int{0}, 1, 0, 0},
		{[]int{1}, 0, 0, 0},
		{[]int{3, 3}, 3, 1, 1},
		{[]int{0, 1}, 0, 2, 2},
		{[]int{0, 1}, 1, 2, 2},
		{[]int{0, 1, 1, 1}, 0, 4, 4}, // one alone: as many as there are slots
		{[]int{1, 0, 1, 1}, 0, 4, 4},
		{[]int{1, 1, 1, 0}, 0, 4, 4},
		{[]int{0, 1, 1, 1}, 1, 1, 2},
		{[]int{1, 0, 1, 1}, 1, 1, 2},
		{[]int{0, 0, 1, 1, 1}, 0, 1, 4}, // the greatest goes round
		{[]int{1, 1, 1, 0, 0}, 0, 1, 4},
		{[]int{1, 0, 1, 1, 0}, 0, 2, 3}, // the least goes round
		{[]int{0, 1, 1, 1, 0}, 0, 1, 4}, // likewise, from the last to the first
		{[]int{0, 1, 1, 0, 1}, 0, 2, 3},
		{[]int{0, 1, 0, 1, 1, 1, 0, 1, 1}, 0, 2, 4},
		{[]int{2, 0, 0, 2, 0, 0, 0}, 2, 3, 4},
		{[]int{-1, 5, -1, 5, 5}, -1, 2, 3},
		{[]int{7, 99, 7, 7}, 99, 4, 4},
		{[]int{math.MinInt, 0, math.MaxInt, 0}, math.MinInt, 4, 4},
		{[]int{math.MinInt, 0, math.MaxInt, 0}, math.MaxInt, 4, 4},
		{[]int{1<<32 + 1, 1, 1}, 1, 1, 2},
		{[]int{1<<32 + 1, 1, 1}, 1<<32 + 1, 3, 3},
	} {
		if least, greatest := spread.Gap(c.slots, c.d); least != c.least || greatest != c.greatest {
			t.Errorf("P12.2: Gap(%v, %d): %d, %d, want %d, %d", c.slots, c.d, least, greatest, c.least, c.greatest)
		}
	}
}

// P12.2: all short frames of few.
func TestGapSmall(t *testing.T) {
	for _, c := range []struct{ length, most int }{{0, 2}, {1, 3}, {2, 3}, {3, 3}, {4, 3}, {5, 2}, {6, 2}, {7, 2}, {8, 1}, {12, 1}} {
		each(c.length, 0, c.most, func(slots []int) {
			for d := -1; d <= c.most+1; d++ {
				gapAgrees(t, slots, d)
			}
		})
	}
}

// P12.2: frames at random, up to the greatest.
func TestGap(t *testing.T) {
	from := rand.New(rand.NewSource(122))
	for range 5000 {
		slots := make([]int, from.Intn(mostFrame+1))
		most := 1 + from.Intn(20)
		for place := range slots {
			slots[place] = from.Intn(most)
		}
		for d := range most {
			gapAgrees(t, slots, d)
		}
	}
}

// P12.2: at most so many slots.
func TestGapLimit(t *testing.T) {
	for _, length := range []int{63, 64, 65, 66, 128, 256, 1 << 16, 1<<16 + 1} {
		all := make([]int, length)
		alone := slices.Repeat([]int{1}, length)
		alone[length-1] = 0
		few := slices.Repeat([]int{1}, length)
		few[0], few[3] = 0, 0
		for _, c := range []struct {
			slots           []int
			least, greatest int
		}{{all, 1, 1}, {alone, length, length}, {few, 3, length - 3}} {
			if length > mostFrame {
				c.least, c.greatest = 0, 0
			}
			if least, greatest := spread.Gap(c.slots, 0); least != c.least || greatest != c.greatest {
				t.Errorf("P12.2: Gap of %d slots: %d, %d, want %d, %d", length, least, greatest, c.least, c.greatest)
			}
		}
	}
}

// notLong tells a fault if one waits longer, or less long, than the frame by
// its count and one slot of each other that has any: round the frame as within.
func notLong(t *testing.T, counts []int) {
	t.Helper()
	slots := spread.Slots(counts)
	frame, others := len(slots), -1
	for _, count := range counts {
		if count > 0 {
			others++
		}
	}
	for d, count := range counts {
		least, greatest := spread.Gap(slots, d)
		if count == 0 {
			if least != 0 || greatest != 0 {
				t.Errorf("P12.3: %v: %d has none, its gaps are %d, %d", counts, d, least, greatest)
			}
			continue
		}
		for _, gap := range []int{least, greatest} {
			off := max(gap*count-frame, frame-gap*count)
			if off > 0 && off >= others*count {
				t.Errorf("P12.3: %v: %v: %d of %d slots is due one in %d, and has a gap of %d", counts, slots, d, count, frame, gap)
			}
		}
	}
}

// P12.3: nobody waits long, round the frame as within.
func TestNotLong(t *testing.T) {
	for first := range mostFrame + 1 {
		for second := range mostFrame - first + 1 {
			if first+second > 0 {
				notLong(t, []int{first, second})
			}
		}
	}
	for _, c := range []struct{ length, most int }{{1, 64}, {3, 12}, {4, 6}, {5, 4}, {6, 3}} {
		each(c.length, 0, c.most, func(counts []int) {
			if sum(counts) > 0 {
				notLong(t, counts)
			}
		})
	}
	from := rand.New(rand.NewSource(123))
	for range 5000 {
		notLong(t, random(from))
	}
}

// P12.3: of two, and of some that are alike, each waits as long as it is due,
// rounded down or up.
func TestEvenly(t *testing.T) {
	for first := 1; first < mostFrame; first++ {
		for second := 1; second <= mostFrame-first; second++ {
			slots := spread.Slots([]int{first, second})
			for d, count := range []int{first, second} {
				least, greatest := spread.Gap(slots, d)
				if least < len(slots)/count || greatest > (len(slots)+count-1)/count {
					t.Errorf("P12.3: %d, %d: %v: %d has gaps of %d, %d", first, second, slots, d, least, greatest)
				}
			}
		}
	}
	for many := 1; many <= mostDomains; many++ {
		for count := 1; count*many <= mostFrame; count++ {
			slots := spread.Slots(slices.Repeat([]int{count}, many))
			for d := range many {
				if least, greatest := spread.Gap(slots, d); least != many || greatest != many {
					t.Errorf("P12.3: %d of %d each: %d has gaps of %d, %d", many, count, d, least, greatest)
				}
			}
		}
	}
}

// P12.1, P12.2: what is handed in is left as it is, spare room too.
func TestLeftAsItIs(t *testing.T) {
	counts := []int{5, 3, 1, 77, 78}
	slots := []int{0, 1, 0, 0, 1, 87, 88}
	spread.Slots(counts[:3])
	spread.Slots(counts[:4])
	spread.Gap(slots[:5], 0)
	spread.Gap(slots[:5], 2)
	if !slices.Equal(counts, []int{5, 3, 1, 77, 78}) || !slices.Equal(slots, []int{0, 1, 0, 0, 1, 87, 88}) {
		t.Errorf("P12.1, P12.2: counts %v, slots %v", counts, slots)
	}
}

// P12.1: an answer is new memory, and hangs on nothing but what is handed in.
func TestAnswersApart(t *testing.T) {
	counts := make([]int, 2, 8)
	copy(counts, []int{1, 3})
	want := []int{1, 0, 1, 1}
	one, other := spread.Slots(counts), spread.Slots(counts)
	for place := range one[:cap(one)] {
		one[:cap(one)][place] = 99
	}
	if !slices.Equal(other, want) || !slices.Equal(counts, []int{1, 3}) {
		t.Errorf("P12.1: %v, counts %v, after another answer was written to", other, counts)
	}
	counts[0] = 0
	if !slices.Equal(other, want) {
		t.Errorf("P12.1: %v after the counts were written to", other)
	}
	counts[0] = 1
	if got := spread.Slots(counts); !slices.Equal(got, want) {
		t.Errorf("P12.1: Slots(%v): %v the third time", counts, got)
	}
}
