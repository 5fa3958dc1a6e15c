package label_test

import (
	"fmt"
	"math"
	"slices"
	"testing"

	"tontine/api"
	"tontine/label"
)

const all = math.MaxUint64

// some gives labels with ordinary levels, those at the limits, those that
// aren't any, and sets with none, some and all.
func some() []api.Label {
	var out []api.Label
	for _, n := range []int{math.MinInt, -1, 0, 1, 2, api.MaxLevel, api.MaxLevel + 1, math.MaxInt} {
		for _, c := range []uint64{0, 1, 2, 3, 6, 1 << 63, 1<<63 | 1, all} {
			out = append(out, api.Label{Level: n, Cats: c})
		}
	}
	return out
}

// flows is P1.1's Leq, cat by cat.
func flows(a, b api.Label) bool {
	if a.Level > b.Level {
		return false
	}
	for bit := range 64 {
		if has(a, bit) && !has(b, bit) {
			return false
		}
	}
	return true
}

func has(l api.Label, bit int) bool { return l.Cats>>bit&1 == 1 }

// P1.1: a label is one by its Level alone, from 0 to MaxLevel.
func TestIs(t *testing.T) {
	for _, c := range []uint64{0, 1, 1 << 63, all} {
		for n := -300; n <= 600; n++ {
			want := n >= 0 && n <= 255
			if got := label.Is(api.Label{Level: n, Cats: c}); got != want {
				t.Errorf("P1.1: Is of level %d, cats %x: %v", n, c, got)
			}
		}
		for _, n := range []int{math.MinInt, math.MinInt + 1, math.MaxInt - 1, math.MaxInt, 1 << 32, -1 << 32} {
			if label.Is(api.Label{Level: n, Cats: c}) {
				t.Errorf("P1.1: Is of level %d, cats %x: true", n, c)
			}
		}
	}
}

// P1.1: Leq by Level and by each Cat, also of what isn't a label.
func TestLeq(t *testing.T) {
	for _, a := range some() {
		for _, b := range some() {
			if got, want := label.Leq(a, b), flows(a, b); got != want {
				t.Errorf("P1.1: Leq(%v, %v): %v", a, b, got)
			}
		}
	}
}

// P1.1: each of the 64 Cats counts, alone.
func TestLeqEachCat(t *testing.T) {
	for bit := range 64 {
		one := api.Label{Cats: 1 << bit}
		rest := api.Label{Cats: ^one.Cats}
		if !label.Leq(one, one) || !label.Leq(api.Label{}, one) || !label.Leq(one, api.Label{Cats: all}) {
			t.Errorf("P1.1: cat %d doesn't flow where it is", bit)
		}
		if label.Leq(one, api.Label{}) || label.Leq(one, rest) || label.Leq(api.Label{Cats: all}, rest) {
			t.Errorf("P1.1: cat %d flows where it isn't", bit)
		}
	}
}

// P1.1: a higher Level doesn't make up for a lacking Cat, nor a Cat for a Level.
func TestLeqNeitherAlone(t *testing.T) {
	if label.Leq(api.Label{Level: 0, Cats: 1}, api.Label{Level: 255, Cats: 2}) {
		t.Error("P1.1: the level made up for a cat")
	}
	if label.Leq(api.Label{Level: 1}, api.Label{Level: 0, Cats: all}) {
		t.Error("P1.1: the cats made up for a level")
	}
}

// P1.1: Join and Meet, Level and Cats by themselves, in either order.
func TestJoinMeet(t *testing.T) {
	for _, a := range some() {
		for _, b := range some() {
			join, meet := label.Join(a, b), label.Meet(a, b)
			high, low := a.Level, b.Level
			if high < low {
				high, low = low, high
			}
			if join.Level != high || meet.Level != low {
				t.Errorf("P1.1: Join, Meet of %v, %v: levels of %v, %v", a, b, join, meet)
			}
			for bit := range 64 {
				if has(join, bit) != (has(a, bit) || has(b, bit)) || has(meet, bit) != (has(a, bit) && has(b, bit)) {
					t.Errorf("P1.1: Join, Meet of %v, %v: cat %d of %v, %v", a, b, bit, join, meet)
				}
			}
			if label.Join(b, a) != join || label.Meet(b, a) != meet {
				t.Errorf("P1.1: Join, Meet of %v, %v hang on their order", a, b)
			}
		}
	}
}

// P1.2: what flows to each other is alike, and what flows on flows.
func TestFlowIsAnOrder(t *testing.T) {
	l := some()
	for _, a := range l {
		if !label.Leq(a, a) {
			t.Errorf("P1.2: %v doesn't flow to itself", a)
		}
		for _, b := range l {
			if a != b && label.Leq(a, b) && label.Leq(b, a) {
				t.Errorf("P1.2: %v and %v flow to each other", a, b)
			}
			for _, c := range l {
				if label.Leq(a, b) && label.Leq(b, c) && !label.Leq(a, c) {
					t.Errorf("P1.2: %v flows to %v, that to %v", a, b, c)
				}
			}
		}
	}
}

// P1.2: to Join flow both, and it flows to all to which both flow; Meet likewise.
func TestFlowBounds(t *testing.T) {
	l := some()
	for _, a := range l {
		for _, b := range l {
			join, meet := label.Join(a, b), label.Meet(a, b)
			for _, c := range l {
				if (label.Leq(a, c) && label.Leq(b, c)) != label.Leq(join, c) {
					t.Errorf("P1.2: Join(%v, %v) against %v", a, b, c)
				}
				if (label.Leq(c, a) && label.Leq(c, b)) != label.Leq(c, meet) {
					t.Errorf("P1.2: Meet(%v, %v) against %v", a, b, c)
				}
			}
		}
	}
}

// P1.1: a chain of none, of one (whatever it is), of some, and where it breaks.
func TestChain(t *testing.T) {
	low, mid, high := api.Label{}, api.Label{Level: 1, Cats: 1}, api.Label{Level: 255, Cats: all}
	side := api.Label{Level: 1, Cats: 2}
	for _, row := range []struct {
		l    []api.Label
		want bool
	}{
		{nil, true},
		{[]api.Label{}, true},
		{[]api.Label{low}, true},
		{[]api.Label{{Level: -1}}, true},
		{[]api.Label{{Level: 256}}, true},
		{[]api.Label{low, mid}, true},
		{[]api.Label{low, mid, high}, true},
		{[]api.Label{low, {Level: 1}}, true},
		{[]api.Label{low, {Cats: 1}, {Cats: 3}}, true},
		{[]api.Label{{Level: math.MinInt}, {Level: -1}, {Level: 256}, {Level: math.MaxInt}}, true},
		{[]api.Label{low, low}, false},
		{[]api.Label{low, high, high}, false},
		{[]api.Label{low, low, high}, false},
		{[]api.Label{mid, low}, false},
		{[]api.Label{low, high, mid}, false},
		{[]api.Label{high, low, mid}, false},
		{[]api.Label{low, mid, low}, false},
		{[]api.Label{mid, side}, false},
		{[]api.Label{low, mid, side, high}, false},
		{[]api.Label{{Level: 1}, {Cats: 1}}, false},
	} {
		if got := label.Chain(row.l...); got != row.want {
			t.Errorf("P1.1: Chain%v: %v", row.l, got)
		}
	}
}

// P1.1: of two and of three, whichever they are.
func TestChainOfAll(t *testing.T) {
	up := func(a, b api.Label) bool { return a != b && flows(a, b) }
	l := some()
	for _, a := range l {
		for _, b := range l {
			if label.Chain(a, b) != up(a, b) {
				t.Errorf("P1.1: Chain(%v, %v): %v", a, b, !up(a, b))
			}
			for _, c := range l {
				if want := up(a, b) && up(b, c); label.Chain(a, b, c) != want {
					t.Errorf("P1.1: Chain(%v, %v, %v): %v", a, b, c, !want)
				}
			}
		}
	}
}

// P1.1: a long chain, and one that breaks at each of its places.
func TestChainLong(t *testing.T) {
	var long []api.Label
	for n := range 1000 {
		long = append(long, api.Label{Level: n - 500})
	}
	if !label.Chain(long...) {
		t.Error("P1.1: a long chain: false")
	}
	for at := 1; at < len(long); at++ {
		broken := slices.Clone(long)
		broken[at] = broken[at-1]
		if label.Chain(broken...) {
			t.Errorf("P1.1: a chain that breaks at %d: true", at)
		}
	}
}

// What is handed in stays as it was, the spare room behind it too.
func TestChainChangesNothing(t *testing.T) {
	room := []api.Label{{Level: 3}, {Level: 2}, {Level: 2, Cats: 1}, {Level: 9, Cats: 9}}
	was := slices.Clone(room)
	label.Chain(room[:2]...)
	label.Chain(room[1:3]...)
	if !slices.Equal(room, was) {
		t.Errorf("Chain changed what was handed in: %v", room)
	}
}

func Example() {
	low, high := api.Label{Level: 1, Cats: 1}, api.Label{Level: 2, Cats: 3}
	fmt.Println(label.Leq(low, high), label.Leq(high, low), label.Chain(low, high), label.Chain())
	// Output: true false true true
}
