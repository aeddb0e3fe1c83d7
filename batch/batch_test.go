package batch_test

import (
	"fmt"
	"math"
	"slices"
	"testing"

	"broodhouse/api"
	"broodhouse/batch"
)

// The fields that a kind has not stand at a number that is no part, no set and
// no value, so that whoever looks at them is found out.
const odd = math.MinInt

func put(part, n int) api.Act    { return api.Act{Kind: api.Put, Part: part, From: odd, N: n} }
func cp(part, from int) api.Act  { return api.Act{Kind: api.Copy, Part: part, From: from, N: odd} }
func add(part, from int) api.Act { return api.Act{Kind: api.Add, Part: part, From: from, N: odd} }
func more(part, n int) api.Act   { return api.Act{Kind: api.More, Part: part, From: odd, N: n} }
func drop(part int) api.Act      { return api.Act{Kind: api.Drop, Part: part, From: odd, N: odd} }
func kill() api.Act              { return api.Act{Kind: api.Kill, Part: odd, From: odd, N: odd} }
func spawn(set, n int) api.Act   { return api.Act{Kind: api.Spawn, Part: set, From: odd, N: n} }

func system(all, none int, acts ...api.Act) api.System {
	return api.System{Filter: api.Filter{All: all, None: none}, Acts: acts}
}

// on is a system that writes part, and reads nothing else.
func on(part int) api.System { return system(1<<part, 0, put(part, 1)) }

// from is a system that writes part, and reads from.
func from(part, from int) api.System { return system(1<<part|1<<from, 0, cp(part, from)) }

// look is one that asks for every part, and does nothing.
func look() api.System { return system(api.Every, 0) }

func fault(err api.Errno, at int) api.Fault { return api.Fault{Err: err, At: at} }

// told is how a value reads: nil and empty lists read alike.
func told(l ...any) string { return fmt.Sprint(l...) }

func TestMakeOf(t *testing.T) {
	life, move := system(0, 0, kill()), system(0, 0, put(7, 1))
	for _, c := range []struct {
		name string
		l    []api.System
		want string
	}{
		{"none", nil, "[]"},
		{"one", []api.System{on(0)}, "[[0]]"},
		{"one without acts", []api.System{{}}, "[[0]]"},
		{"two of one part", []api.System{on(0), on(0)}, "[[0] [1]]"},
		{"two of two parts", []api.System{on(0), on(1)}, "[[0 1]]"},
		{"two of part 0, one of part 1", []api.System{on(0), on(0), on(1)}, "[[0 2] [1]]"},
		{"every part", []api.System{on(7), on(6), on(5), on(4), on(3), on(2), on(1), on(0)}, "[[0 1 2 3 4 5 6 7]]"},
		{"two of each of three", []api.System{on(0), on(1), on(2), on(2), on(1), on(0)}, "[[0 1 2] [3 4 5]]"},
		{"who reads alike", []api.System{from(0, 3), from(1, 3), from(2, 3)}, "[[0 1 2]]"},
		{"read, and then written", []api.System{from(0, 1), on(1)}, "[[0] [1]]"},
		{"written, and then read", []api.System{on(1), from(0, 1)}, "[[0] [1]]"},
		{"a row of readers", []api.System{from(0, 1), from(1, 2), from(2, 3), from(3, 4)}, "[[0] [1] [2] [3]]"},
		{"that row from behind", []api.System{from(3, 4), from(2, 3), from(1, 2), from(0, 1)}, "[[0] [1] [2] [3]]"},
		{"behind the last that clashes, not the first", []api.System{on(0), from(0, 1), from(2, 0)}, "[[0] [1] [2]]"},
		{"behind a batch that has no clash", []api.System{on(0), on(1), on(1), from(2, 1), from(3, 2), on(0)}, "[[0 1] [2 5] [3] [4]]"},
		{"no way back ahead of a clash", []api.System{on(0), on(0), from(0, 1), on(1), on(2)}, "[[0 4] [1] [2] [3]]"},
		{"a clash in the last batch alone", []api.System{on(0), on(0), from(1, 0), from(3, 1)}, "[[0] [1] [2] [3]]"},
		{"a clash in the middle alone", []api.System{on(0), from(1, 0), from(2, 1), from(3, 1)}, "[[0] [1] [2 3]]"},
		{"a second one in a batch clashes", []api.System{on(0), on(1), on(2), on(1)}, "[[0 1 2] [3]]"},
		{"the last one in a batch clashes", []api.System{on(0), on(1), on(2), on(2)}, "[[0 1 2] [3]]"},
		{"life", []api.System{on(0), life, on(0), on(1)}, "[[0] [1] [2 3]]"},
		{"life first", []api.System{life, on(0), on(1), look()}, "[[0] [1 2 3]]"},
		{"life last", []api.System{on(0), on(1), look(), life}, "[[0 1 2] [3]]"},
		{"life and life", []api.System{life, life, life}, "[[0] [1] [2]]"},
		{"who spawns nothing", []api.System{on(0), system(0, 0, spawn(0, 0)), on(1)}, "[[0] [1] [2]]"},
		{"moves", []api.System{on(0), move, on(1), on(2)}, "[[0] [1] [2 3]]"},
		{"a drop moves", []api.System{on(0), system(2, 0, drop(1)), on(2)}, "[[0] [1] [2]]"},
		{"what is asked for is not read", []api.System{look(), on(0), look(), on(1), look()}, "[[0 1 2 3 4]]"},
		{"None is not read", []api.System{on(0), system(0, 1), system(2, 1, put(1, 1))}, "[[0 1 2]]"},
		{"the mod is no matter", []api.System{{Mod: 5, Filter: api.Filter{All: 1}, Acts: []api.Act{put(0, 1)}}, on(0), {Mod: 5}}, "[[0 2] [1]]"},
		{"as many as may be, together", make([]api.System, 12), "[[0 1 2 3 4 5 6 7 8 9 10 11]]"},
		{"as many as may be, one by one", slices.Repeat([]api.System{on(3)}, 12), "[[0] [1] [2] [3] [4] [5] [6] [7] [8] [9] [10] [11]]"},
		{"two parts in turn", slices.Repeat([]api.System{on(3), on(4)}, 6), "[[0 1] [2 3] [4 5] [6 7] [8 9] [10 11]]"},
		{"what adds reads its Part too", []api.System{system(3, 0, add(0, 1)), system(1, 0, more(0, 1)), from(1, 1)}, "[[0] [1 2]]"},
	} {
		if got := batch.Wrong(c.l); got != (api.Fault{}) {
			t.Errorf("%s: %v is wrong", c.name, got)
		}
		got, f := batch.Make(c.l)
		if f != (api.Fault{}) || told(got) != c.want {
			t.Errorf("%s: %v %v, not %v", c.name, got, f, c.want)
		}
	}
}

func TestWhatIsWrongWithAList(t *testing.T) {
	right := func(n int) []api.System { return make([]api.System, n) }
	late := system(1, 0, put(0, 1), more(0, 1), kill(), api.Act{}) // wrong at its act 3
	for _, c := range []struct {
		name string
		l    []api.System
		want api.Fault
	}{
		{"one too many", right(13), fault(api.ErrMany, 0)},
		{"far too many", right(5000), fault(api.ErrMany, 0)},
		{"too many, and a wrong one first", append([]api.System{{Mod: -1}}, right(12)...), fault(api.ErrMany, 0)},
		{"too many, and a wrong one last", append(right(12), late), fault(api.ErrMany, 0)},
		{"a wrong one", []api.System{{Mod: 6}}, fault(api.ErrRange, 0)},
		{"a wrong act, told by its system", []api.System{late}, fault(api.ErrKind, 0)},
		{"a wrong act of the second one", []api.System{{}, late}, fault(api.ErrKind, 1)},
		{"the last one of twelve", append(right(11), late), fault(api.ErrKind, 11)},
		{"the first of two", []api.System{{}, {}, late, {Mod: 6}}, fault(api.ErrKind, 2)},
		{"the first of two, the other way", []api.System{{}, {}, {Mod: 6}, late}, fault(api.ErrRange, 2)},
		{"too many acts", []api.System{{}, {}, {}, system(0, 0, slices.Repeat([]api.Act{kill()}, 9)...)}, fault(api.ErrMany, 3)},
		{"what is not there is read", []api.System{on(0), system(1, 0, kill(), more(1, 1))}, fault(api.ErrFit, 1)},
		{"no set", []api.System{on(0), system(256, 0)}, fault(api.ErrRange, 1)},
		{"no set of None", []api.System{on(0), on(0), system(0, -1)}, fault(api.ErrRange, 2)},
		{"no value", []api.System{on(0), system(1, 0, put(0, api.MaxValue+1)), late}, fault(api.ErrRange, 1)},
	} {
		if got := batch.Wrong(c.l); got != c.want {
			t.Errorf("%s: %v comes, not %v", c.name, got, c.want)
		}
		if got, f := batch.Make(c.l); f != c.want || len(got) > 0 {
			t.Errorf("%s: Make answers %v %v, not %v", c.name, got, f, c.want)
		}
	}
}

func TestOrderOf(t *testing.T) {
	for _, c := range []struct {
		l    [][]int
		want string
	}{
		{nil, "[]"},
		{[][]int{}, "[]"},
		{[][]int{nil}, "[]"},
		{[][]int{{}, nil, {}}, "[]"},
		{[][]int{{5}}, "[5]"},
		{[][]int{{0, 2}, {1}}, "[0 2 1]"},
		{[][]int{{3, 1}, {}, {2}}, "[3 1 2]"},
		{[][]int{nil, {9, 8, 7}, nil, {7, 8, 9}, nil}, "[9 8 7 7 8 9]"},
		{[][]int{{4, 4}, {4}}, "[4 4 4]"},
		{[][]int{{math.MaxInt, -1}, {math.MinInt}}, fmt.Sprint([]int{math.MaxInt, -1, math.MinInt})},
	} {
		if got := batch.Order(c.l); told(got) != c.want {
			t.Errorf("%v: %v, not %s", c.l, got, c.want)
		}
	}
	var long [][]int
	for n := range 20000 {
		long = append(long, []int{n, -n})
	}
	got := batch.Order(long)
	if len(got) != 40000 || got[39998] != 19999 || got[39999] != -19999 {
		t.Errorf("%d numbers come of 40000", len(got))
	}
}
