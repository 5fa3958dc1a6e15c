// Package label: levels and sets, what flows where: see doc/01-label.md.
package label

import (
	"tontine/api"
)

// Is tells whether l's Level is from 0 to MaxLevel; any set of Cats may be.
func Is(l api.Label) bool {
	return 0 <= l.Level && l.Level <= api.MaxLevel
}

// Leq tells whether information flows from a to b: a's Level isn't above b's,
// and each of a's Cats is one of b's.
func Leq(a, b api.Label) bool {
	return a.Level <= b.Level && a.Cats&^b.Cats == 0
}

// Join answers the lowest label to which both a and b flow.
func Join(a, b api.Label) api.Label {
	return api.Label{Level: max(a.Level, b.Level), Cats: a.Cats | b.Cats}
}

// Meet answers the highest label that flows to both a and b.
func Meet(a, b api.Label) api.Label {
	return api.Label{Level: min(a.Level, b.Level), Cats: a.Cats & b.Cats}
}

// Chain tells whether the labels rise, each one strictly above the one ahead
// of it. Leq is transitive, so that neighbours alone need be held against
// each other.
func Chain(l ...api.Label) bool {
	at := 1
next:
	if at >= len(l) {
		return true
	}
	if rises(l[at-1], l[at]) {
		at++
		goto next
	}
	return false
}

func rises(a, b api.Label) bool {
	return a != b && Leq(a, b)
}
