package share_test

import (
	"math"
	"math/big"
	"math/rand"
	"slices"
	"testing"

	"tontine/share"
)

const (
	mostFrame   = 64
	mostDomains = 6
	mostShare   = 1000
)

func sum(list []int) int {
	all := 0
	for _, n := range list {
		all += n
	}
	return all
}

// due is what a share is due, as a fraction.
func due(frame int, shares []int, place int) *big.Rat {
	return big.NewRat(int64(frame)*int64(shares[place]), int64(sum(shares)))
}

// apart is how far a count is from what its share is due.
func apart(frame int, shares []int, place, count int) *big.Rat {
	far := new(big.Rat).SetInt64(int64(count))
	return far.Abs(far.Sub(far, due(frame, shares, place)))
}

// counted is Counts by the chapter's words, in fractions: all places in the
// order of their rests, the least ahead among those that are alike.
func counted(frame int, shares []int) []int {
	counts := make([]int, len(shares))
	rests := make([]*big.Rat, len(shares))
	places := make([]int, len(shares))
	left := frame
	for place := range shares {
		part := due(frame, shares, place)
		whole := new(big.Int).Div(part.Num(), part.Denom())
		counts[place], places[place] = int(whole.Int64()), place
		rests[place] = part.Sub(part, new(big.Rat).SetInt(whole))
		left -= counts[place]
	}
	slices.SortStableFunc(places, func(a, b int) int { return rests[b].Cmp(rests[a]) })
	for _, place := range places[:left] {
		counts[place]++
	}
	return counts
}

// exact is Exact by the chapter's words, in fractions.
func exact(frame int, shares, counts []int) bool {
	if len(counts) != len(shares) {
		return false
	}
	all := new(big.Int)
	for place, count := range counts {
		if apart(frame, shares, place, count).Cmp(big.NewRat(1, 1)) >= 0 {
			return false
		}
		all.Add(all, big.NewInt(int64(count)))
	}
	return all.Cmp(big.NewInt(int64(frame))) == 0
}

func countsAgree(t *testing.T, frame int, shares []int) {
	t.Helper()
	got, want := share.Counts(frame, shares), counted(frame, shares)
	if !slices.Equal(got, want) {
		t.Errorf("P11.1: Counts(%d, %v): %v, want %v", frame, shares, got, want)
	}
	if !share.Exact(frame, shares, got) {
		t.Errorf("P11.2: Exact(%d, %v, %v): false", frame, shares, got)
	}
}

func exactAgrees(t *testing.T, frame int, shares, counts []int) {
	t.Helper()
	want := exact(frame, shares, counts)
	if got := share.Exact(frame, shares, counts); got != want {
		t.Errorf("P11.2: Exact(%d, %v, %v): %v, want %v", frame, shares, counts, got, want)
	}
}

// each goes through all lists of that length of numbers from least to most.
func each(length, least, most int, do func([]int)) {
	list := make([]int, length)
	var fill func(int)
	fill = func(place int) {
		if place == length {
			do(list)
			return
		}
		for n := least; n <= most; n++ {
			list[place] = n
			fill(place + 1)
		}
	}
	fill(0)
}

// random gives shares that may be, small ones and great ones, 0 among them.
func random(from *rand.Rand) []int {
	shares := make([]int, 1+from.Intn(mostDomains))
	most := []int{2, 10, 100, mostShare}[from.Intn(4)]
	for place := range shares {
		shares[place] = from.Intn(most + 1)
	}
	if from.Intn(3) == 0 {
		shares[from.Intn(len(shares))] = mostShare
	}
	if sum(shares) == 0 {
		shares[from.Intn(len(shares))] = 1
	}
	return shares
}

// P11.1: Counts, worked out by hand.
func TestCountsByHand(t *testing.T) {
	for _, c := range []struct {
		frame  int
		shares []int
		want   []int
	}{
		{10, []int{1, 1, 1}, []int{4, 3, 3}},
		{11, []int{1, 1, 1}, []int{4, 4, 3}},
		{12, []int{1, 1, 1}, []int{4, 4, 4}},
		{1, []int{1}, []int{1}},
		{1, []int{1000}, []int{1}},
		{64, []int{1}, []int{64}},
		{64, []int{1000}, []int{64}},
		{64, []int{1000, 1000, 1000, 1000, 1000, 1000}, []int{11, 11, 11, 11, 10, 10}},
		{64, []int{0, 0, 0, 0, 0, 1}, []int{0, 0, 0, 0, 0, 64}},
		{64, []int{1, 0, 0, 0, 0, 0}, []int{64, 0, 0, 0, 0, 0}},
		{1, []int{1, 1, 1, 1, 1, 1}, []int{1, 0, 0, 0, 0, 0}},
		{1, []int{0, 1, 1, 1, 1, 1}, []int{0, 1, 0, 0, 0, 0}},
		{5, []int{1, 1, 1, 1, 1, 1}, []int{1, 1, 1, 1, 1, 0}},
		{1, []int{1, 2, 2}, []int{0, 1, 0}},
		{2, []int{1, 2, 2}, []int{0, 1, 1}},
		{3, []int{1, 2, 2}, []int{1, 1, 1}},     // rests 3, 1, 1 fifths
		{4, []int{1, 2, 2}, []int{1, 2, 1}},     // rests 4, 3, 3 fifths
		{4, []int{2, 2, 1}, []int{2, 1, 1}},     // rests 3, 3, 4 fifths
		{7, []int{5, 3, 1}, []int{4, 2, 1}},     // rests 8, 3, 7 ninths
		{7, []int{1, 3, 5}, []int{1, 2, 4}},     // likewise
		{2, []int{999, 1000}, []int{1, 1}},      // rests 1998, 1 of 1999
		{3, []int{999, 1000}, []int{1, 2}},      // rests 998, 1001 of 1999
		{64, []int{1000, 1}, []int{64, 0}},      // rests 937, 64 of 1001
		{63, []int{1000, 16}, []int{62, 1}},     // rests 8, 1008 of 1016
		{1, []int{499, 500, 1}, []int{0, 1, 0}}, // the rests are the shares
		{64, []int{1000, 999, 1000, 999, 1000, 998}, []int{11, 11, 11, 10, 11, 10}},
	} {
		if got := share.Counts(c.frame, c.shares); !slices.Equal(got, c.want) {
			t.Errorf("P11.1: Counts(%d, %v): %v, want %v", c.frame, c.shares, got, c.want)
		}
		if !share.Exact(c.frame, c.shares, c.want) {
			t.Errorf("P11.2: Exact(%d, %v, %v): false", c.frame, c.shares, c.want)
		}
	}
}

// P11.1: all small shares, of each length, and every frame for short ones.
func TestCountsSmall(t *testing.T) {
	for _, c := range []struct{ length, most int }{{1, 12}, {2, 9}, {3, 4}, {4, 2}, {5, 1}, {6, 1}} {
		each(c.length, 0, c.most, func(shares []int) {
			if sum(shares) == 0 {
				return
			}
			for frame := 1; frame <= mostFrame; frame += c.length {
				countsAgree(t, frame, shares)
			}
			countsAgree(t, mostFrame, shares)
		})
	}
}

// P11.1: shares at random, great ones among them, every frame.
func TestCounts(t *testing.T) {
	from := rand.New(rand.NewSource(11))
	for range 300 {
		shares := random(from)
		for frame := 1; frame <= mostFrame; frame++ {
			countsAgree(t, frame, shares)
		}
	}
}

// mayNot are frames and shares of which one thing is wrong; what they would be
// given, were it let be, stands beside them.
var mayNot = []struct {
	frame  int
	shares []int
	counts []int
}{
	{0, []int{1}, []int{0}},
	{0, []int{1, 1}, []int{0, 0}},
	{-1, []int{1}, []int{-1}},
	{-64, []int{1}, []int{-64}},
	{math.MinInt, []int{1}, []int{math.MinInt}},
	{65, []int{1}, []int{65}},
	{66, []int{1, 1}, []int{33, 33}},
	{1<<32 + 1, []int{1}, []int{1}},
	{1<<32 + 1, []int{1}, []int{1<<32 + 1}},
	{math.MaxInt, []int{1}, []int{math.MaxInt}},
	{10, nil, nil},
	{10, []int{}, []int{}},
	{0, nil, nil},
	{7, []int{1, 1, 1, 1, 1, 1, 1}, []int{1, 1, 1, 1, 1, 1, 1}},
	{6, []int{1, 1, 1, 1, 1, 1, 0}, []int{1, 1, 1, 1, 1, 1, 0}},
	{1, []int{0, 0, 0, 0, 0, 0, 1}, []int{0, 0, 0, 0, 0, 0, 1}},
	{10, []int{0}, []int{0}},
	{10, []int{0}, []int{10}},
	{10, []int{0, 0}, []int{5, 5}},
	{4, []int{0, 0, 0, 0, 0, 0}, []int{4, 0, 0, 0, 0, 0}},
	{10, []int{-1}, []int{10}},
	{10, []int{-1, -1}, []int{5, 5}},
	{10, []int{2, -1}, []int{20, -10}},
	{10, []int{-1, 2}, []int{-10, 20}},
	{10, []int{-1, 1}, []int{5, 5}},
	{10, []int{1, -1, 0}, []int{10, 0, 0}},
	{10, []int{5, 6, -1}, []int{5, 6, -1}},
	{10, []int{math.MinInt, math.MaxInt, 2}, []int{0, 0, 10}},
	{10, []int{math.MinInt, math.MinInt, 1}, []int{0, 0, 10}},
	{10, []int{1001}, []int{10}},
	{10, []int{1001, 1001}, []int{5, 5}},
	{10, []int{1001, 0}, []int{10, 0}},
	{10, []int{0, 1001}, []int{0, 10}},
	{10, []int{1, 1001}, []int{0, 10}},
	{10, []int{1 << 32, 1 << 32}, []int{5, 5}},
	{10, []int{1<<32 + 1, 1}, []int{5, 5}},
	{10, []int{math.MaxInt}, []int{10}},
	{1, []int{math.MaxInt, math.MaxInt, 3}, []int{0, 0, 1}},
}

// P11.1, P11.2: of what may not be there is none, and it is false.
func TestMayNot(t *testing.T) {
	for _, c := range mayNot {
		if got := share.Counts(c.frame, c.shares); len(got) != 0 {
			t.Errorf("P11.1: Counts(%d, %v): %v, want none", c.frame, c.shares, got)
		}
		for _, counts := range [][]int{c.counts, nil, make([]int, len(c.shares))} {
			if share.Exact(c.frame, c.shares, counts) {
				t.Errorf("P11.2: Exact(%d, %v, %v): true", c.frame, c.shares, counts)
			}
		}
	}
}

// P11.1, P11.2: one share that may not be is told at each place of each length.
func TestMayNotAnywhere(t *testing.T) {
	for length := 1; length <= mostDomains; length++ {
		for place := range length {
			shares := slices.Repeat([]int{7}, length)
			counts := share.Counts(20, shares)
			for _, wrong := range []int{math.MinInt, -1001, -1000, -1, 1001, 1002, 1 << 32, math.MaxInt} {
				shares[place] = wrong
				if got := share.Counts(20, shares); len(got) != 0 {
					t.Errorf("P11.1: Counts(20, %v): %v, want none", shares, got)
				}
				if share.Exact(20, shares, counts) {
					t.Errorf("P11.2: Exact(20, %v, %v): true", shares, counts)
				}
			}
			for _, right := range []int{0, 1, 999, 1000} {
				if shares[place] = right; sum(shares) > 0 && len(share.Counts(20, shares)) != length {
					t.Errorf("P11.1: Counts(20, %v): none", shares)
				}
			}
		}
	}
}

// P11.1: of many shares more than may be there is none.
func TestFarTooMany(t *testing.T) {
	for _, length := range []int{7, 8, 64, 256, 262, 1 << 16, 1<<16 + 6} {
		shares := slices.Repeat([]int{1}, length)
		if got := share.Counts(64, shares); len(got) != 0 {
			t.Errorf("P11.1: Counts of %d shares: %v, want none", length, got)
		}
		if share.Exact(64, shares, make([]int, length)) {
			t.Errorf("P11.2: Exact of %d shares: true", length)
		}
	}
}

// P11.2: Exact, worked out by hand.
func TestExactByHand(t *testing.T) {
	for _, c := range []struct {
		frame          int
		shares, counts []int
		want           bool
	}{
		{10, []int{1, 1, 1}, []int{4, 3, 3}, true},
		{10, []int{1, 1, 1}, []int{3, 3, 4}, true}, // not Counts' own, as near
		{10, []int{1, 1, 1}, []int{3, 3, 3}, false},
		{10, []int{1, 1, 1}, []int{4, 4, 3}, false},
		{10, []int{1, 1, 1}, []int{4, 4, 2}, false},
		{10, []int{1, 1, 1}, []int{5, 3, 2}, false},
		{10, []int{1, 1, 1}, []int{4, 6}, false},
		{10, []int{1, 1, 1}, []int{4, 3, 3, 0}, false},
		{10, []int{1, 1, 1}, nil, false},
		{10, []int{1, 1, 1}, []int{}, false},
		{4, []int{2, 1, 1}, []int{2, 1, 1}, true}, // whole: just 1 away is too far
		{4, []int{2, 1, 1}, []int{3, 1, 0}, false},
		{4, []int{2, 1, 1}, []int{1, 1, 2}, false},
		{4, []int{2, 1, 1}, []int{2, 0, 2}, false},
		{4, []int{2, 1, 0}, []int{3, 1, 0}, true},
		{4, []int{2, 1, 0}, []int{2, 2, 0}, true},
		{4, []int{2, 1, 0}, []int{2, 1, 1}, false}, // who has no share has none
		{4, []int{2, 1, 0}, []int{3, 2, -1}, false},
		{1, []int{1000, 1}, []int{0, 1}, true}, // less than 1 away, if hardly
		{1, []int{1000, 1, 0}, []int{0, 0, 1}, false},
		{64, []int{1000, 999}, []int{32, 32}, true},
		{64, []int{1000, 999}, []int{33, 31}, true},
		{64, []int{1000, 999}, []int{34, 30}, false},
		{64, []int{1000, 999}, []int{31, 33}, false},
		{5, []int{7}, []int{5}, true},
		{5, []int{7}, []int{4}, false},
		{5, []int{7}, []int{6}, false},
	} {
		if got := share.Exact(c.frame, c.shares, c.counts); got != c.want {
			t.Errorf("P11.2: Exact(%d, %v, %v): %v, want %v", c.frame, c.shares, c.counts, got, c.want)
		}
	}
}

// P11.2: all counts that are small, of all shares that are.
func TestExactSmall(t *testing.T) {
	for _, c := range []struct{ length, share, count int }{{1, 4, 7}, {2, 4, 7}, {3, 2, 4}, {4, 1, 2}} {
		each(c.length, 0, c.share, func(shares []int) {
			if sum(shares) == 0 {
				return
			}
			for frame := 1; frame <= 6; frame++ {
				each(c.length, -1, c.count, func(counts []int) { exactAgrees(t, frame, shares, counts) })
			}
		})
	}
}

// P11.2: what Counts tells, moved about by a quantum or two.
func TestExactMoved(t *testing.T) {
	from := rand.New(rand.NewSource(112))
	for range 8000 {
		shares, frame := random(from), 1+from.Intn(mostFrame)
		counts := share.Counts(frame, shares)
		for range 3 {
			counts[from.Intn(len(counts))]++
			exactAgrees(t, frame, shares, counts)
			counts[from.Intn(len(counts))]--
			exactAgrees(t, frame, shares, counts)
		}
		exactAgrees(t, frame, shares, counts[:len(counts)-1])
		exactAgrees(t, frame, shares, append(counts, 0))
	}
}

// P11.2: counts of any greatness, also such as are frame in sum, or would be if
// numbers went round.
func TestExactWild(t *testing.T) {
	wild := []int{
		math.MinInt, math.MinInt + 1, -1 << 62, -1<<53 - 1, -1 << 53, -1 << 32, -65, -64, -2, -1,
		65, 66, 1 << 31, 1<<32 + 3, 1 << 53, 1<<53 + 1, 1 << 60, 1 << 62, math.MaxInt - 1, math.MaxInt,
	}
	for _, shares := range [][]int{{1, 1, 1}, {1, 0, 0}, {0, 1, 1000}, {1000, 1000, 1000}} {
		for _, frame := range []int{1, 10, 63, 64} {
			for _, a := range wild {
				exactAgrees(t, frame, shares, []int{a, a, a})
				exactAgrees(t, frame, shares, []int{a, 0, frame - a})
				exactAgrees(t, frame, shares, []int{0, a, frame - a})
				exactAgrees(t, frame, shares, []int{frame - a, 0, a})
				for _, b := range wild {
					exactAgrees(t, frame, shares, []int{a, b, frame - a - b})
				}
			}
		}
	}
	exactAgrees(t, 4, []int{1, 1, 1, 1, 1}, []int{1 << 62, 1 << 62, 1 << 62, 1 << 62, 4})
	exactAgrees(t, 4, []int{1, 1, 1, 1, 1}, []int{1 << 62, 1, 1 << 62, 1, math.MinInt + 2})
}

// P11.2: what is handed in is left as it is, spare room too.
func TestLeftAsItIs(t *testing.T) {
	shares := []int{5, 3, 1, 77, 78}
	counts := []int{4, 2, 1, 87, 88}
	share.Counts(7, shares[:3])
	share.Exact(7, shares[:3], counts[:3])
	share.Exact(7, shares[:3], counts[:2])
	share.Counts(65, shares[:3])
	if !slices.Equal(shares, []int{5, 3, 1, 77, 78}) || !slices.Equal(counts, []int{4, 2, 1, 87, 88}) {
		t.Errorf("P11.1, P11.2: shares %v, counts %v", shares, counts)
	}
}

// P11.1: an answer is new memory, and hangs on nothing but what is handed in.
func TestAnswersApart(t *testing.T) {
	shares := make([]int, 3, 8)
	copy(shares, []int{5, 3, 1})
	one, other := share.Counts(7, shares), share.Counts(7, shares)
	for place := range one[:cap(one)] {
		one[:cap(one)][place] = 99
	}
	if !slices.Equal(other, []int{4, 2, 1}) || !slices.Equal(shares, []int{5, 3, 1}) {
		t.Errorf("P11.1: %v, shares %v, after another answer was written to", other, shares)
	}
	shares[0] = 0
	if !slices.Equal(other, []int{4, 2, 1}) {
		t.Errorf("P11.1: %v after the shares were written to", other)
	}
	shares[0] = 5
	if got := share.Counts(7, shares); !slices.Equal(got, []int{4, 2, 1}) {
		t.Errorf("P11.1: Counts(7, %v): %v the third time", shares, got)
	}
}

// farthest and together tell of counts how far the farthest is from what its
// share is due, and how far all are.
func farthest(frame int, shares, counts []int) (far, all *big.Rat) {
	far, all = new(big.Rat), new(big.Rat)
	for place, count := range counts {
		one := apart(frame, shares, place, count)
		if one.Cmp(far) > 0 {
			far = one
		}
		all.Add(all, one)
	}
	return far, all
}

// P11.3: no counts that are frame in sum are nearer than Counts, neither the
// farthest of them nor all together.
func TestAsNearAsMayBe(t *testing.T) {
	for _, length := range []int{1, 2, 3} {
		each(length, 0, 4, func(shares []int) {
			if sum(shares) == 0 {
				return
			}
			for frame := 1; frame <= 5; frame++ {
				got := share.Counts(frame, shares)
				far, all := farthest(frame, shares, got)
				each(length, 0, frame, func(counts []int) {
					if sum(counts) != frame {
						return
					}
					otherFar, otherAll := farthest(frame, shares, counts)
					if otherFar.Cmp(far) < 0 || otherAll.Cmp(all) < 0 {
						t.Errorf("P11.3: Counts(%d, %v): %v, though %v are nearer", frame, shares, got, counts)
					}
				})
			}
		})
	}
}

// P11.3: the counts are frame in sum, who has a greater share has as many at
// least, who has none has none.
func TestAsShared(t *testing.T) {
	from := rand.New(rand.NewSource(113))
	for range 4000 {
		shares, frame := random(from), 1+from.Intn(mostFrame)
		got := share.Counts(frame, shares)
		if len(got) != len(shares) || sum(got) != frame {
			t.Fatalf("P11.3: Counts(%d, %v): %v", frame, shares, got)
		}
		for a := range shares {
			if shares[a] == 0 && got[a] != 0 {
				t.Errorf("P11.3: Counts(%d, %v): %v, to a share of 0", frame, shares, got)
			}
			for b := range shares {
				if shares[a] > shares[b] && got[a] < got[b] {
					t.Errorf("P11.3: Counts(%d, %v): %v, less to the greater share", frame, shares, got)
				}
			}
		}
	}
}
