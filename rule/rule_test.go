package rule_test

import (
	"fmt"
	"math"
	"slices"
	"testing"

	"broodhouse/api"
	"broodhouse/rule"
)

// The fields that a kind has not stand at a number that is no part, no set and
// no value, so that whoever looks at them is found out.
const none = math.MinInt

func put(part, n int) api.Act    { return api.Act{Kind: api.Put, Part: part, From: none, N: n} }
func cp(part, from int) api.Act  { return api.Act{Kind: api.Copy, Part: part, From: from, N: none} }
func add(part, from int) api.Act { return api.Act{Kind: api.Add, Part: part, From: from, N: none} }
func more(part, n int) api.Act   { return api.Act{Kind: api.More, Part: part, From: none, N: n} }
func drop(part int) api.Act      { return api.Act{Kind: api.Drop, Part: part, From: none, N: none} }
func kill() api.Act              { return api.Act{Kind: api.Kill, Part: none, From: none, N: none} }
func spawn(set, n int) api.Act   { return api.Act{Kind: api.Spawn, Part: set, From: none, N: n} }

func system(all, none int, acts ...api.Act) api.System {
	return api.System{Filter: api.Filter{All: all, None: none}, Acts: acts}
}

func ofMod(mod int, s api.System) api.System {
	s.Mod = mod
	return s
}

// times is n acts that are right by themselves.
func times(n int) []api.Act { return slices.Repeat([]api.Act{kill()}, n) }

func fault(err api.Errno, at int) api.Fault { return api.Fault{Err: err, At: at} }

type judged struct {
	name string
	s    api.System
	want api.Fault
}

func judge(t *testing.T, all []judged) {
	t.Helper()
	for _, j := range all {
		if got := rule.Wrong(j.s); got != j.want {
			t.Errorf("%s: %v comes, not %v", j.name, got, j.want)
		}
	}
}

func TestWhatIsWrongWithTheHead(t *testing.T) {
	bad := []api.Act{{}}
	judge(t, []judged{
		{"nothing", api.System{}, fault(api.OK, 0)},
		{"no acts", api.System{Acts: []api.Act{}}, fault(api.OK, 0)},
		{"the last mod", ofMod(5, system(0, 0)), fault(api.OK, 0)},
		{"a mod too many", ofMod(6, system(0, 0)), fault(api.ErrRange, 0)},
		{"a mod below", ofMod(-1, system(0, 0)), fault(api.ErrRange, 0)},
		{"the greatest mod", ofMod(math.MaxInt, system(0, 0)), fault(api.ErrRange, 0)},
		{"the least mod", ofMod(math.MinInt, system(0, 0)), fault(api.ErrRange, 0)},
		{"every part", system(255, 0), fault(api.OK, 0)},
		{"none of any", system(0, 255), fault(api.OK, 0)},
		{"every part, and none", system(255, 255), fault(api.OK, 0)},
		{"All above", system(256, 0), fault(api.ErrRange, 0)},
		{"All below", system(-1, 0), fault(api.ErrRange, 0)},
		{"None above", system(0, 256), fault(api.ErrRange, 0)},
		{"None below", system(0, -1), fault(api.ErrRange, 0)},
		{"as many acts as may be", system(0, 0, times(8)...), fault(api.OK, 0)},
		{"an act too many", system(0, 0, times(9)...), fault(api.ErrMany, 0)},
		{"far too many", system(0, 0, times(5000)...), fault(api.ErrMany, 0)},
		{"too many, and a mod that is none", ofMod(6, system(0, 0, times(9)...)), fault(api.ErrRange, 0)},
		{"too many, and no set", system(0, 256, times(9)...), fault(api.ErrRange, 0)},
		{"too many, and a wrong act", system(0, 0, append(bad, times(8)...)...), fault(api.ErrMany, 0)},
		{"no set, and a wrong act behind", system(256, 0, kill(), api.Act{}), fault(api.ErrRange, 0)},
	})
}

func TestKindsOfActs(t *testing.T) {
	for _, kind := range []int{math.MinInt, -1, 0, 8, 9, math.MaxInt} {
		a := api.Act{Kind: kind, Part: 8, From: 8, N: 1000001}
		judge(t, []judged{
			{fmt.Sprint("kind ", kind), system(255, 0, a), fault(api.ErrKind, 0)},
			{fmt.Sprint("kind ", kind, " at the end"), system(255, 0, append(times(7), a)...), fault(api.ErrKind, 7)},
			{fmt.Sprint("kind ", kind, ", all right beside"), system(255, 0, api.Act{Kind: kind}), fault(api.ErrKind, 0)},
		})
	}
	l := []api.Act{put(0, 1), cp(1, 0), add(1, 0), more(1, 1), drop(1), kill(), spawn(1, 1)}
	judge(t, []judged{{"one of each", system(3, 0, l...), fault(api.OK, 0)}})
}

// TestEveryFieldInItsRange goes over the edges of each field of each kind.
func TestEveryFieldInItsRange(t *testing.T) {
	ints := []int{math.MinInt, -1000001, -1000000, -257, -256, -8, -1, 0, 1, 7, 8, 9, 255, 256, 1000000, 1000001, math.MaxInt}
	part := func(n int) bool { return n >= 0 && n <= 7 }
	set := func(n int) bool { return n >= 0 && n <= 255 }
	value := func(n int) bool { return n >= -1000000 && n <= 1000000 }
	fits := []struct {
		make func(n int) api.Act
		fit  func(n int) bool
	}{
		{func(n int) api.Act { return put(n, 0) }, part},
		{func(n int) api.Act { return put(0, n) }, value},
		{func(n int) api.Act { return cp(n, 0) }, part},
		{func(n int) api.Act { return cp(0, n) }, part},
		{func(n int) api.Act { return add(n, 0) }, part},
		{func(n int) api.Act { return add(0, n) }, part},
		{func(n int) api.Act { return more(n, 0) }, part},
		{func(n int) api.Act { return more(0, n) }, value},
		{func(n int) api.Act { return drop(n) }, part},
		{func(n int) api.Act { return spawn(n, 0) }, set},
		{func(n int) api.Act { return spawn(0, n) }, value},
	}
	for i, f := range fits {
		for _, n := range ints {
			want := fault(api.ErrRange, 0)
			if f.fit(n) {
				want = fault(api.OK, 0)
			}
			judge(t, []judged{{fmt.Sprintf("field %d at %d", i, n), system(255, 0, f.make(n)), want}})
			if want.Err != api.OK {
				want.At = 2
			}
			judge(t, []judged{{fmt.Sprintf("field %d at %d, behind", i, n), system(255, 0, kill(), kill(), f.make(n)), want}})
		}
	}
}

func TestWhatIsReadMustBeThere(t *testing.T) {
	fit := func(at int) api.Fault { return fault(api.ErrFit, at) }
	ok := api.Fault{}
	judge(t, []judged{
		{"copied, and there", system(2, 0, cp(0, 1)), ok},
		{"copied, and not there", system(1, 0, cp(0, 1)), fit(0)},
		{"copied on itself, and not there", system(1, 0, cp(1, 1)), fit(0)},
		{"added, and both there", system(3, 0, add(0, 1)), ok},
		{"added, and From not there", system(1, 0, add(0, 1)), fit(0)},
		{"added, and Part not there", system(2, 0, add(0, 1)), fit(0)},
		{"added to itself", system(1, 0, add(0, 0)), ok},
		{"more, and there", system(128, 0, more(7, 1)), ok},
		{"more, and not there", system(127, 0, more(7, 1)), fit(0)},
		{"put, and not there", system(0, 0, put(0, 1)), ok},
		{"dropped, and not there", system(0, 0, drop(0)), ok},
		{"dropped twice", system(1, 0, drop(0), drop(0)), ok},
		{"asked not to be there", system(0, 1, put(0, 1)), ok},
		{"asked to be there, and not to", system(1, 1, more(0, 1)), ok},
		{"put, but not in All", system(0, 0, put(0, 1), more(0, 1)), fit(1)},
		{"copied, but not in All", system(1, 0, cp(1, 0), more(1, 1)), fit(1)},
		{"spawned, but not in All", system(0, 0, spawn(1, 1), more(0, 1)), fit(1)},
		{"dropped and put, but not in All", system(0, 0, drop(0), put(0, 1), more(0, 1)), fit(2)},
		{"the first one at fault", system(0, 0, more(0, 1), api.Act{}), fit(0)},
		{"out of range as well", system(0, 0, more(0, 1000001)), fault(api.ErrRange, 0)},
		{"From out of range, Part not there", system(0, 0, add(0, 8)), fault(api.ErrRange, 0)},
		{"Part out of range, From not there", system(0, 0, cp(8, 0)), fault(api.ErrRange, 0)},
		{"behind a Kill", system(0, 0, kill(), more(0, 1)), fit(1)},
	})
}

func TestWhatWasDropped(t *testing.T) {
	fit := func(at int) api.Fault { return fault(api.ErrFit, at) }
	ok := api.Fault{}
	judge(t, []judged{
		{"more", system(3, 0, drop(1), more(1, 1)), fit(1)},
		{"copied", system(3, 0, drop(1), cp(0, 1)), fit(1)},
		{"copied on itself", system(3, 0, drop(1), cp(1, 1)), fit(1)},
		{"added", system(3, 0, drop(1), add(0, 1)), fit(1)},
		{"added to", system(3, 0, drop(1), add(1, 0)), fit(1)},
		{"long ago", system(3, 0, drop(1), kill(), spawn(2, 1), put(0, 1), more(1, 1)), fit(4)},
		{"another one", system(3, 0, drop(1), more(0, 1)), ok},
		{"behind it", system(3, 0, more(1, 1), drop(1)), ok},
		{"put since", system(3, 0, drop(1), put(1, 1), more(1, 1)), ok},
		{"put since, and copied", system(3, 0, drop(1), put(1, 1), cp(0, 1)), ok},
		{"put since, and added", system(3, 0, drop(1), put(1, 1), add(1, 1)), ok},
		{"copied since", system(3, 0, drop(1), cp(1, 0), add(0, 1)), ok},
		{"another one put since", system(3, 0, drop(1), put(0, 1), more(1, 1)), fit(2)},
		{"another one copied since", system(7, 0, drop(1), cp(0, 2), more(1, 1)), fit(2)},
		{"put ahead, not since", system(3, 0, put(1, 1), drop(1), more(1, 1)), fit(2)},
		{"dropped again", system(3, 0, drop(1), put(1, 1), drop(1), more(1, 1)), fit(3)},
		{"dropped again, put again", system(3, 0, drop(1), put(1, 1), drop(1), cp(1, 0), more(1, 1)), ok},
		{"two of them, one put", system(3, 0, drop(0), drop(1), put(1, 1), add(1, 0)), fit(3)},
		{"spawned since", system(3, 0, drop(1), spawn(2, 1), more(1, 1)), fit(2)},
	})
}

func TestNeeds(t *testing.T) {
	for i, c := range []struct {
		s    api.System
		want api.Needs
	}{
		{api.System{}, api.Needs{}},
		{system(255, 0), api.Needs{}},
		{system(0, 255), api.Needs{}},
		{system(3, 0, add(0, 1)), api.Needs{Reads: 3, Writes: 1}},
		{system(3, 0, add(1, 1)), api.Needs{Reads: 2, Writes: 2}},
		{system(3, 0, cp(0, 1)), api.Needs{Reads: 2, Writes: 1}},
		{system(2, 0, cp(0, 1)), api.Needs{Reads: 2, Writes: 1, Moves: true}},
		{system(1, 0, put(0, 1)), api.Needs{Writes: 1}},
		{system(0, 0, put(0, 1)), api.Needs{Writes: 1, Moves: true}},
		{system(0, 1, put(0, 1)), api.Needs{Writes: 1, Moves: true}},
		{system(1, 1, put(0, 1)), api.Needs{Writes: 1}},
		{system(128, 0, more(7, 1)), api.Needs{Reads: 128, Writes: 128}},
		{system(1, 0, drop(0)), api.Needs{Writes: 1, Moves: true}},
		{system(0, 0, drop(0)), api.Needs{Writes: 1, Moves: true}},
		{system(0, 1, drop(0)), api.Needs{Writes: 1, Moves: true}},
		{system(1, 0, drop(0), put(0, 1)), api.Needs{Writes: 1, Moves: true}},
		{system(0, 0, kill()), api.Needs{Life: true}},
		{system(0, 0, spawn(0, 1)), api.Needs{Life: true}},
		{system(0, 0, spawn(6, 1)), api.Needs{Writes: 6, Life: true}},
		{system(0, 0, spawn(6, 1), spawn(129, 1)), api.Needs{Writes: 135, Life: true}},
		{system(1, 0, kill(), more(0, 1), put(0, 2)), api.Needs{Reads: 1, Writes: 1, Life: true}},
		{system(13, 0, cp(1, 0), put(0, 1), add(2, 3)), api.Needs{Reads: 13, Writes: 7, Moves: true}},
		{ofMod(5, system(1, 0, more(0, 1))), api.Needs{Reads: 1, Writes: 1}},
	} {
		if got := rule.Wrong(c.s); got.Err != api.OK {
			t.Errorf("%d: %v is wrong: %v", i, c.s, got)
		}
		if got := rule.Needs(c.s); got != c.want {
			t.Errorf("%d: %v needs %v, not %v", i, c.s, got, c.want)
		}
	}
}

func TestMay(t *testing.T) {
	mod := func(reads, writes int, life bool) api.Mod { return api.Mod{Reads: reads, Writes: writes, Life: life} }
	for i, c := range []struct {
		m    api.Mod
		s    api.System
		want bool
	}{
		{mod(0, 0, false), api.System{}, true},
		{mod(0, 0, false), ofMod(5, system(0, 0)), true},
		{mod(3, 1, false), system(3, 0, add(0, 1)), true},
		{mod(3, 2, false), system(3, 0, add(0, 1)), false},
		{mod(1, 1, false), system(3, 0, add(0, 1)), false},
		{mod(2, 1, false), system(3, 0, add(0, 1)), false},
		{mod(1, 0, false), system(1, 0), true},
		{mod(0, 255, true), system(1, 0), false},
		{mod(1, 0, false), system(0, 1), true},
		{mod(0, 255, true), system(0, 1), false},
		{mod(2, 0, false), system(2, 1), false},
		{mod(255, 0, true), system(0, 0, put(0, 1)), false},
		{mod(0, 1, false), system(0, 0, put(0, 1)), true},
		{mod(0, 254, true), system(0, 0, put(0, 1)), false},
		{mod(0, 1, false), system(0, 0, drop(0)), true},
		{mod(255, 254, true), system(0, 0, drop(0)), false},
		{mod(255, 254, true), system(1, 0, more(0, 1)), false},
		{mod(255, 254, true), system(2, 0, cp(0, 1)), false},
		{mod(2, 1, false), system(2, 0, cp(0, 1)), true},
		{mod(255, 255, false), system(0, 0, kill()), false},
		{mod(0, 0, true), system(0, 0, kill()), true},
		{mod(255, 255, false), system(0, 0, spawn(0, 0)), false},
		{mod(0, 0, true), system(0, 0, spawn(0, 0)), true},
		{mod(0, 6, true), system(0, 0, spawn(6, 0)), true},
		{mod(255, 4, true), system(0, 0, spawn(6, 0)), false},
	} {
		if got := rule.May(c.m, c.s); got != c.want {
			t.Errorf("%d: %v may do %v: %v", i, c.m, c.s, got)
		}
	}
}

func TestClash(t *testing.T) {
	for i, c := range []struct {
		a, b api.System
		want bool
	}{
		{system(0, 0), system(0, 0), false},
		{system(255, 0), system(255, 0), false},
		{system(1, 0, more(0, 1)), system(2, 0, more(1, 1)), false},
		{system(1, 0, more(0, 1)), system(1, 0, more(0, 1)), true},
		{system(1, 0, put(0, 1)), system(1, 0, put(0, 2)), true},
		{system(1, 0, put(0, 1)), system(1, 2, put(0, 1)), true},
		{system(1, 0, put(0, 1)), system(3, 0, cp(1, 0)), true},
		{system(7, 0, cp(1, 0)), system(7, 0, cp(2, 0)), false},
		{system(7, 0, cp(1, 0)), system(7, 0, cp(2, 1)), true},
		{system(1, 0, put(0, 1)), system(1, 0), false},
		{system(1, 0, put(0, 1)), system(0, 1), false},
		{system(0, 0, put(0, 1)), system(0, 0), true},
		{system(0, 0, drop(0)), system(0, 0), true},
		{system(0, 0, kill()), system(0, 0), true},
		{system(0, 0, spawn(0, 0)), system(0, 0), true},
		{system(0, 0, spawn(1, 0)), system(2, 0, more(1, 1)), true},
		{system(0, 0, drop(0)), system(2, 0, more(1, 1)), true},
		{system(0, 0, kill()), system(0, 0, kill()), true},
		{ofMod(0, system(1, 0, more(0, 1))), ofMod(1, system(1, 0, more(0, 1))), true},
	} {
		if got := rule.Clash(c.a, c.b); got != c.want {
			t.Errorf("%d: %v and %v clash: %v", i, c.a, c.b, got)
		}
		if got := rule.Clash(c.b, c.a); got != c.want {
			t.Errorf("%d, turned round: %v and %v clash: %v", i, c.b, c.a, got)
		}
	}
}
