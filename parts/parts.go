// Package parts has sets of parts: see doc/01-parts.md.
package parts

import (
	"math/bits"

	"broodhouse/api"
)

// Set tells whether n is a set of parts.
func Set(n int) bool { return 0 <= n && n <= api.Every }

// Part tells whether n is a part.
func Part(n int) bool { return 0 <= n && n < api.Kinds }

// Has tells whether part is a part, and in set.
func Has(set, part int) bool { return set&bit(part) != 0 }

// With answers set with part; set, if that is no part.
func With(set, part int) int { return set | bit(part) }

// Without answers set without part; set, if that is no part.
func Without(set, part int) int { return set &^ bit(part) }

// Count tells how many parts set has.
func Count(set int) int { return bits.OnesCount(uint(set & api.Every)) }

// List tells the parts of set, rising.
func List(set int) []int {
	out := make([]int, 0, Count(set))
	for part := range api.Kinds {
		if Has(set, part) {
			out = append(out, part)
		}
	}
	return out
}

// Meets tells whether has has all parts of f.All, and none of f.None.
func Meets(f api.Filter, has int) bool {
	return f.All&^has == 0 && f.None&has == 0
}

// Value tells whether n is a value.
func Value(n int) bool { return -api.MaxValue <= n && n <= api.MaxValue }

// Clip answers the value that is nearest to n.
func Clip(n int) int { return min(max(n, -api.MaxValue), api.MaxValue) }

// bit answers the set of part alone. It is empty for what is no part, so that
// such a one is in no set and changes none; a negative shift would panic.
func bit(part int) int {
	if !Part(part) {
		return 0
	}
	return 1 << part
}
