package stride_test

import (
	"math"
	"math/big"
	"math/rand"
	"testing"

	"tontine/stride"
)

const (
	mostPass   = 1 << 40
	mostQuanta = 1 << 20
)

// strides by weight, written out by hand.
var strides = [17]int{0, 720720, 360360, 240240, 180180, 144144, 120120, 102960, 90090, 80080, 72072, 65520, 60060, 55440, 51480, 48048, 45045}

var noWeights = []int{math.MinInt, math.MinInt + 1, -720720, -1 << 32, -17, -16, -2, -1, 0, 17, 18, 32, 255, 720720, 1<<32 + 1, 1 << 40, math.MaxInt - 1, math.MaxInt}

// passes are of both ends, and of what is about strides, MaxPass and 32 bits.
var passes = []int{0, 1, 2, 15, 16, 17, 45044, 45045, 45046, 720719, 720720, 720721, 1<<24 - 1, 1 << 24, 1<<24 + 1, 1<<31 - 1, 1 << 31, 1<<32 + 3, 1<<39 + 7, mostPass - 720720, mostPass - 17, mostPass - 1, mostPass}

// of is a weight's stride by the table, 0 of what is no weight.
func of(weight int) int {
	if weight < 1 || weight > 16 {
		return 0
	}
	return strides[weight]
}

// P6.1: weights are from 1 to MaxWeight, a stride is Whole by its weight.
func TestOf(t *testing.T) {
	for weight := 1; weight <= 16; weight++ {
		if !stride.Is(weight) {
			t.Errorf("P6.1: Is(%d): false", weight)
		}
		if got := stride.Of(weight); got != strides[weight] || got*weight != 720720 {
			t.Errorf("P6.1: Of(%d): %d, want %d", weight, got, strides[weight])
		}
	}
}

// P6.1: what is no weight is told, and has the stride 0.
func TestNoWeight(t *testing.T) {
	for _, weight := range noWeights {
		if stride.Is(weight) {
			t.Errorf("P6.1: Is(%d): true", weight)
		}
		if got := stride.Of(weight); got != 0 {
			t.Errorf("P6.1: Of(%d): %d, want 0", weight, got)
		}
	}
}

// P6.1: the next pass is pass and Of, also past 1 << 40.
func TestNext(t *testing.T) {
	for weight := 1; weight <= 16; weight++ {
		for _, pass := range passes {
			if got, want := stride.Next(pass, weight), pass+strides[weight]; got != want {
				t.Errorf("P6.1: Next(%d, %d): %d, want %d", pass, weight, got, want)
			}
		}
	}
}

// scaled is Scale by the chapter's words, in numbers of any length.
func scaled(pass, now, from, to int) int {
	if pass <= now {
		return pass
	}
	way := big.NewInt(int64(pass - now))
	way.Mul(way, big.NewInt(int64(strides[to])))
	way.Div(way, big.NewInt(int64(strides[from])))
	return now + int(way.Int64())
}

func scales(t *testing.T, pass, now, from, to int) {
	t.Helper()
	if got, want := stride.Scale(pass, now, from, to), scaled(pass, now, from, to); got != want {
		t.Errorf("P6.1: Scale(%d, %d, %d, %d): %d, want %d", pass, now, from, to, got, want)
	}
}

// P6.1: Scale, worked out by hand.
func TestScaleByHand(t *testing.T) {
	for _, c := range []struct{ pass, now, from, to, want int }{
		{0, 0, 1, 16, 0},
		{1, 0, 1, 2, 0},
		{1, 0, 2, 1, 2},
		{3, 0, 1, 2, 1},
		{100, 10, 1, 3, 40},
		{99, 10, 1, 3, 39},
		{11, 10, 16, 15, 11},
		{26, 10, 15, 16, 25},
		{10, 10, 1, 16, 10},
		{9, 10, 1, 16, 9},
		{0, mostPass, 16, 1, 0},
		{mostPass, 0, 16, 1, 1 << 44},
		{mostPass, 0, 1, 16, 1 << 36},
		{mostPass, mostPass - 1, 16, 1, mostPass + 15},
		{mostPass, mostPass, 16, 1, mostPass},
		{mostPass, 0, 16, 13, 1353245080339}, // (1 << 44) / 13 leaves 9
	} {
		if got := stride.Scale(c.pass, c.now, c.from, c.to); got != c.want {
			t.Errorf("P6.1: Scale(%d, %d, %d, %d): %d, want %d", c.pass, c.now, c.from, c.to, got, c.want)
		}
	}
}

// P6.1: Scale of each two weights: short ways all, long ones at both ends and
// at random.
func TestScale(t *testing.T) {
	random := rand.New(rand.NewSource(6))
	for from := 1; from <= 16; from++ {
		for to := 1; to <= 16; to++ {
			for pass := 0; pass <= 60; pass++ {
				for _, now := range []int{0, 1, 7, 30, 59, 60, 61, mostPass} {
					scales(t, pass, now, from, to)
				}
			}
			for _, pass := range passes {
				for _, now := range passes {
					scales(t, pass, now, from, to)
				}
			}
			for range 400 {
				scales(t, random.Intn(mostPass+1), random.Intn(mostPass+1), from, to)
			}
		}
	}
}

// fair is Fair by the chapter's words, in whole numbers.
func fair(n, a, m, b int) bool {
	apart := max(0, min(n, mostQuanta))*of(a) - max(0, min(m, mostQuanta))*of(b)
	most := of(a) + of(b)
	return -most <= apart && apart <= most
}

// agrees holds Fair against the words; neither of the two goes first in them.
func agrees(t *testing.T, n, a, m, b int) {
	t.Helper()
	want := fair(n, a, m, b)
	if got := stride.Fair(n, a, m, b); got != want {
		t.Errorf("P6.2: Fair(%d, %d, %d, %d): %v, want %v", n, a, m, b, got, want)
	}
	if got := stride.Fair(m, b, n, a); got != want {
		t.Errorf("P6.2: Fair(%d, %d, %d, %d): %v, want %v", m, b, n, a, got, want)
	}
}

// P6.2: Fair, worked out by hand.
func TestFairByHand(t *testing.T) {
	for _, c := range []struct {
		n, a, m, b int
		want       bool
	}{
		{0, 1, 0, 16, true},
		{7, 5, 7, 5, true},
		{9, 5, 7, 5, true}, // just two strides
		{10, 5, 7, 5, false},
		{5, 5, 7, 5, true},
		{4, 5, 7, 5, false},
		{4, 1, 5, 2, true}, // just a stride of each
		{4, 1, 4, 2, false},
		{4, 1, 11, 2, true},
		{4, 1, 12, 2, false},
		{mostQuanta, 16, mostQuanta/16 + 1, 1, true},
		{mostQuanta, 16, mostQuanta/16 + 2, 1, false},
		{mostQuanta, 1, mostQuanta, 1, true},
		{mostQuanta, 1, mostQuanta, 2, false},
	} {
		if got := stride.Fair(c.n, c.a, c.m, c.b); got != c.want {
			t.Errorf("P6.2: Fair(%d, %d, %d, %d): %v, want %v", c.n, c.a, c.m, c.b, got, c.want)
		}
	}
}

// P6.2: Fair of each two weights: few quanta all, many where it turns.
func TestFair(t *testing.T) {
	for a := 1; a <= 16; a++ {
		for b := 1; b <= 16; b++ {
			for n := 0; n <= 40; n++ {
				for m := 0; m <= 40; m++ {
					agrees(t, n, a, m, b)
				}
			}
			for _, n := range []int{1<<10 - 1, 1 << 16, 1<<16 + 1, 1<<20 - 3, 1<<20 - 1, 1 << 20} {
				alike := n * strides[a] / strides[b]
				for m := alike - 20; m <= alike+20; m++ {
					agrees(t, n, a, m, b)
				}
			}
		}
	}
}

// P6.2: n and m are held from 0 to 1 << 20.
func TestFairHeld(t *testing.T) {
	under := []int{math.MinInt, math.MinInt + 1, -1 << 40, -1 << 32, -1 << 20, -2, -1}
	over := []int{mostQuanta + 1, mostQuanta + 2, 1 << 21, 1 << 32, 1<<32 + 1, 1 << 40, math.MaxInt - 1, math.MaxInt}
	for a := 1; a <= 16; a++ {
		for b := 1; b <= 16; b++ {
			for _, n := range under {
				for m := -3; m <= 20; m++ {
					agrees(t, n, a, m, b)
				}
			}
			alike := mostQuanta * strides[a] / strides[b]
			for _, n := range over {
				for m := alike - 3; m <= alike+3; m++ {
					agrees(t, n, a, m, b)
				}
				for _, m := range over {
					agrees(t, n, a, m, b)
				}
			}
		}
	}
}

// P6.2: what is no weight has the stride 0 for Fair too.
func TestFairNoWeight(t *testing.T) {
	quanta := []int{math.MinInt, -1, 0, 1, 2, 3, mostQuanta, mostQuanta + 1, math.MaxInt}
	for _, a := range noWeights {
		for _, b := range append([]int{1, 2, 16}, noWeights...) {
			for _, n := range quanta {
				for _, m := range quanta {
					agrees(t, n, a, m, b)
				}
			}
		}
	}
}

// P6.1: no call panics, whatever it is given; of what is no weight or no pass
// nothing else is promised of Next and Scale.
func TestAllArguments(t *testing.T) {
	wild := append([]int{-mostPass, mostPass, mostPass + 1}, noWeights...)
	weights := append([]int{1, 2, 15, 16}, noWeights...)
	for _, from := range weights {
		for _, pass := range wild {
			stride.Next(pass, from)
			for _, now := range wild {
				for _, to := range weights {
					stride.Scale(pass, now, from, to)
				}
			}
		}
	}
}

// P6.3: who is heavier goes a shorter way: by a stride, by a quantum, by what
// is left when it becomes so.
func TestHeavier(t *testing.T) {
	for light := 1; light <= 16; light++ {
		for heavy := light + 1; heavy <= 16; heavy++ {
			if stride.Of(heavy) >= stride.Of(light) {
				t.Errorf("P6.3: Of(%d): %d, of %d: %d", heavy, stride.Of(heavy), light, stride.Of(light))
			}
			if stride.Next(9, heavy) >= stride.Next(9, light) {
				t.Errorf("P6.3: Next(9, %d): %d, of %d: %d", heavy, stride.Next(9, heavy), light, stride.Next(9, light))
			}
			if got := stride.Scale(5000, 9, light, heavy); got >= 5000 {
				t.Errorf("P6.3: Scale(5000, 9, %d, %d): %d", light, heavy, got)
			}
			if got := stride.Scale(5000, 9, heavy, light); got <= 5000 {
				t.Errorf("P6.3: Scale(5000, 9, %d, %d): %d", heavy, light, got)
			}
		}
	}
}

// P6.2, P6.3: where the least pass runs, what two have had is fair at any
// time, and the heavier one has had at least as much but for one quantum.
func TestLeastRuns(t *testing.T) {
	for a := 1; a <= 16; a++ {
		for b := a; b <= 16; b++ {
			n, m, passA, passB := 0, 0, 0, 0
			for range 500 {
				if passA <= passB {
					n, passA = n+1, stride.Next(passA, a)
				} else {
					m, passB = m+1, stride.Next(passB, b)
				}
				if !stride.Fair(n, a, m, b) {
					t.Fatalf("P6.2: Fair(%d, %d, %d, %d): false", n, a, m, b)
				}
				if m+1 < n {
					t.Fatalf("P6.3: weight %d had %d, weight %d had %d", a, n, b, m)
				}
			}
		}
	}
}
