package parts_test

import (
	"math"
	"slices"
	"testing"

	"broodhouse/api"
	"broodhouse/parts"
)

// noParts are numbers that are no part: the nearest ones, those at which a
// shift would wrap round or panic, and the outermost ones.
var noParts = []int{math.MinInt, -256, -64, -8, -1, 8, 9, 31, 32, 63, 64, 65, 255, 256, math.MaxInt}

// members tells a set part by part, by division alone.
func members(set int) [api.Kinds]bool {
	var in [api.Kinds]bool
	for part := range in {
		in[part] = set%2 == 1
		set /= 2
	}
	return in
}

// number is the set of these parts.
func number(in [api.Kinds]bool) int {
	set, worth := 0, 1
	for _, yes := range in {
		if yes {
			set += worth
		}
		worth *= 2
	}
	return set
}

func TestNumbersThatAreSetsPartsAndValues(t *testing.T) {
	for _, c := range []struct {
		n                int
		set, part, value bool
	}{
		{math.MinInt, false, false, false},
		{-1000001, false, false, false},
		{-1000000, false, false, true},
		{-255, false, false, true},
		{-1, false, false, true},
		{0, true, true, true},
		{1, true, true, true},
		{7, true, true, true},
		{8, true, false, true},
		{254, true, false, true},
		{255, true, false, true},
		{256, false, false, true},
		{1000000, false, false, true},
		{1000001, false, false, false},
		{1 << 32, false, false, false},
		{math.MaxInt, false, false, false},
	} {
		if got := parts.Set(c.n); got != c.set {
			t.Errorf("Set(%d) is %v", c.n, got)
		}
		if got := parts.Part(c.n); got != c.part {
			t.Errorf("Part(%d) is %v", c.n, got)
		}
		if got := parts.Value(c.n); got != c.value {
			t.Errorf("Value(%d) is %v", c.n, got)
		}
	}
}

func TestClipIsTheNearestValue(t *testing.T) {
	for _, c := range []struct{ n, want int }{
		{math.MinInt, -1000000},
		{-2000000, -1000000},
		{-1000001, -1000000},
		{-1000000, -1000000},
		{-999999, -999999},
		{-1, -1},
		{0, 0},
		{14, 14},
		{999999, 999999},
		{1000000, 1000000},
		{1000001, 1000000},
		{1 << 32, 1000000},
		{math.MaxInt, 1000000},
	} {
		if got := parts.Clip(c.n); got != c.want {
			t.Errorf("Clip(%d) is %d, not %d", c.n, got, c.want)
		}
	}
}

func TestPartsZeroOneAndThreeAreEleven(t *testing.T) {
	set := parts.With(parts.With(parts.With(0, 3), 0), 1)
	if set != 11 {
		t.Fatalf("the set is %d", set)
	}
	if got := parts.List(set); !slices.Equal(got, []int{0, 1, 3}) {
		t.Errorf("its parts are %v", got)
	}
	if got := parts.Count(set); got != 3 {
		t.Errorf("it has %d parts", got)
	}
	if got := parts.Without(set, 1); got != 9 {
		t.Errorf("without part 1 it is %d", got)
	}
}

func TestEachPartOfEachSet(t *testing.T) {
	for set := 0; set <= api.Every; set++ {
		in := members(set)
		for part := range api.Kinds {
			with, without := in, in
			with[part], without[part] = true, false
			if got := parts.Has(set, part); got != in[part] {
				t.Errorf("Has(%d, %d) is %v", set, part, got)
			}
			if got := parts.With(set, part); got != number(with) {
				t.Errorf("With(%d, %d) is %d", set, part, got)
			}
			if got := parts.Without(set, part); got != number(without) {
				t.Errorf("Without(%d, %d) is %d", set, part, got)
			}
		}
	}
}

func TestWhatIsNoPartIsInNoSetAndChangesNone(t *testing.T) {
	for set := 0; set <= api.Every; set++ {
		for _, part := range noParts {
			if parts.Has(set, part) {
				t.Errorf("Has(%d, %d) is true", set, part)
			}
			if got := parts.With(set, part); got != set {
				t.Errorf("With(%d, %d) is %d", set, part, got)
			}
			if got := parts.Without(set, part); got != set {
				t.Errorf("Without(%d, %d) is %d", set, part, got)
			}
		}
	}
}

func TestCountAndListOfEachSet(t *testing.T) {
	for set := 0; set <= api.Every; set++ {
		var want []int
		for part, yes := range members(set) {
			if yes {
				want = append(want, part)
			}
		}
		if got := parts.List(set); !slices.Equal(got, want) {
			t.Errorf("List(%d) is %v, not %v", set, got, want)
		}
		if got := parts.Count(set); got != len(want) {
			t.Errorf("Count(%d) is %d, not %d", set, got, len(want))
		}
	}
}

func TestListIsTheCallersOwn(t *testing.T) {
	first := parts.List(api.Every)
	second := parts.List(api.Every)
	for i := range first {
		first[i] = -1
	}
	want := []int{0, 1, 2, 3, 4, 5, 6, 7}
	if !slices.Equal(second, want) || !slices.Equal(parts.List(api.Every), want) {
		t.Error("one list's change shows in another one")
	}
}

func TestMeetsPartByPart(t *testing.T) {
	for _, has := range []int{0, 1, 5, 11, 128, 170, 254, 255} {
		in := members(has)
		for all := 0; all <= api.Every; all++ {
			for none := 0; none <= api.Every; none++ {
				want := true
				asked, barred := members(all), members(none)
				for part := range in {
					if asked[part] && !in[part] || barred[part] && in[part] {
						want = false
					}
				}
				if got := parts.Meets(api.Filter{All: all, None: none}, has); got != want {
					t.Fatalf("Meets({%d %d}, %d) is %v", all, none, has, got)
				}
			}
		}
	}
}

func TestNoNumberPanics(t *testing.T) {
	for _, n := range noParts {
		for _, m := range noParts {
			parts.Has(n, m)
			parts.With(n, m)
			parts.Without(n, m)
			parts.Meets(api.Filter{All: n, None: m}, n)
		}
		parts.Count(n)
		parts.List(n)
		parts.Clip(n)
	}
}
