package rule_test

import (
	"fmt"
	"math"
	"slices"
	"testing"

	"broodhouse/api"
	"broodhouse/rule"
)

// dice are numbers in a fixed order that looks like none.
type dice uint64

func (d *dice) below(n int) int {
	*d = *d*6364136223846793005 + 1442695040888963407
	return int(uint64(*d) >> 33 % uint64(n))
}

// near is mostly a number below n, and now and then one that is odd.
func near(d *dice, n int) int {
	if d.below(40) > 0 {
		return d.below(n)
	}
	l := []int{math.MinInt, -1000001, -1, n, n + 1, 1000001, math.MaxInt}
	return l[d.below(len(l))]
}

func someAct(d *dice) api.Act {
	a := api.Act{Kind: 1 + near(d, 7), Part: near(d, 8), From: near(d, 8), N: near(d, 1000001)}
	if a.Kind == api.Spawn {
		a.Part = near(d, 256)
	}
	return a
}

func someSystem(d *dice) api.System {
	s := api.System{Mod: near(d, 6)}
	s.Filter = api.Filter{All: near(d, 256), None: near(d, 256)}
	if d.below(2) == 0 {
		s.Filter.All = 255
	}
	for range near(d, 9) % 12 {
		s.Acts = append(s.Acts, someAct(d))
	}
	return s
}

// has tells whether part is in set, by halving.
func has(set, part int) bool {
	for range part {
		set /= 2
	}
	return set%2 == 1
}

func between(low, n, high int) bool { return low <= n && n <= high }

// readBy are the parts that a reads, by its kind.
func readBy(a api.Act) []int {
	return map[int][]int{api.Copy: {a.From}, api.Add: {a.From, a.Part}, api.More: {a.Part}}[a.Kind]
}

// gone tells whether the last of acts that puts, copies or drops part drops it.
func gone(acts []api.Act, part int) bool {
	for _, a := range slices.Backward(acts) {
		if a.Part == part && (a.Kind == api.Put || a.Kind == api.Copy) {
			return false
		}
		if a.Part == part && a.Kind == api.Drop {
			return true
		}
	}
	return false
}

// wrongAt tells what is wrong with the act of s at a number, looking back.
func wrongAt(s api.System, at int) api.Errno {
	a := s.Acts[at]
	last := map[int]int{api.Put: 7, api.Copy: 7, api.Add: 7, api.More: 7, api.Drop: 7, api.Spawn: 255, api.Kill: -1}
	most, known := last[a.Kind]
	if !known {
		return api.ErrKind
	}
	valued := a.Kind == api.Put || a.Kind == api.More || a.Kind == api.Spawn
	from := a.Kind == api.Copy || a.Kind == api.Add
	if most >= 0 && !between(0, a.Part, most) || from && !between(0, a.From, 7) || valued && !between(-1000000, a.N, 1000000) {
		return api.ErrRange
	}
	for _, part := range readBy(a) {
		if !has(s.Filter.All, part) || gone(s.Acts[:at], part) {
			return api.ErrFit
		}
	}
	return api.OK
}

// wrongOf is another telling of what is wrong with a system.
func wrongOf(s api.System) api.Fault {
	if !between(0, s.Mod, 5) || !between(0, s.Filter.All, 255) || !between(0, s.Filter.None, 255) {
		return fault(api.ErrRange, 0)
	}
	if len(s.Acts) > 8 {
		return fault(api.ErrMany, 0)
	}
	for at := range s.Acts {
		if err := wrongAt(s, at); err != api.OK {
			return fault(err, at)
		}
	}
	return api.Fault{}
}

// wants are the needs of a right system, part by part.
type wants struct {
	reads, writes [api.Kinds]bool
	moves, life   bool
}

func wantsOf(s api.System) wants {
	var w wants
	for _, a := range s.Acts {
		for _, part := range readBy(a) {
			w.reads[part] = true
		}
		switch a.Kind {
		case api.Kill:
			w.life = true
		case api.Spawn:
			w.life = true
			for part := range api.Kinds {
				w.writes[part] = w.writes[part] || has(a.Part, part)
			}
		default:
			w.writes[a.Part] = true
			puts := a.Kind == api.Put || a.Kind == api.Copy
			w.moves = w.moves || a.Kind == api.Drop || puts && !has(s.Filter.All, a.Part)
		}
	}
	return w
}

func (w wants) needs() api.Needs {
	n := api.Needs{Moves: w.moves, Life: w.life}
	for part, bit := 0, 1; part < api.Kinds; part, bit = part+1, bit*2 {
		if w.reads[part] {
			n.Reads += bit
		}
		if w.writes[part] {
			n.Writes += bit
		}
	}
	return n
}

func (w wants) mayBy(m api.Mod, f api.Filter) bool {
	for part := range api.Kinds {
		asked := w.reads[part] || has(f.All, part) || has(f.None, part)
		if asked && !has(m.Reads, part) || w.writes[part] && !has(m.Writes, part) {
			return false
		}
	}
	return !w.life || m.Life
}

func (w wants) clashes(o wants) bool {
	for part := range api.Kinds {
		if w.writes[part] && (o.reads[part] || o.writes[part]) || o.writes[part] && w.reads[part] {
			return true
		}
	}
	return w.moves || o.moves || w.life || o.life
}

func TestManySystems(t *testing.T) {
	d := dice(4)
	var right []api.System
	times := map[api.Errno]int{}
	for range 30000 {
		s := someSystem(&d)
		want := wrongOf(s)
		times[want.Err]++
		if got := rule.Wrong(s); got != want {
			t.Fatalf("%v: %v comes, not %v", s, got, want)
		}
		if want.Err == api.OK {
			right = append(right, s)
		}
	}
	for _, err := range []api.Errno{api.OK, api.ErrRange, api.ErrMany, api.ErrFit, api.ErrKind} {
		if times[err] < 50 {
			t.Errorf("%v came only %d times", err, times[err])
		}
	}
	for i, s := range right {
		w := wantsOf(s)
		if got := rule.Needs(s); got != w.needs() {
			t.Fatalf("%v needs %v, not %v", s, got, w.needs())
		}
		mayLikeWants(t, &d, s, w)
		o := right[(i+1)%len(right)]
		if got := rule.Clash(s, o); got != w.clashes(wantsOf(o)) {
			t.Fatalf("%v and %v clash: %v", s, o, got)
		}
	}
}

// TestSmallSystemsClash takes systems of one act each, so that many of them
// do not clash.
func TestSmallSystemsClash(t *testing.T) {
	d := dice(5)
	clash := [2]int{}
	for range 20000 {
		one := func() api.System {
			kinds := []int{api.Put, api.Copy, api.Add, api.More}
			return system(255, 0, api.Act{Kind: kinds[d.below(4)], Part: d.below(8), From: d.below(8)})
		}
		a, b := one(), one()
		want := wantsOf(a).clashes(wantsOf(b))
		if got := rule.Clash(a, b); got != want {
			t.Fatalf("%v and %v clash: %v", a, b, got)
		}
		if want {
			clash[1]++
		} else {
			clash[0]++
		}
	}
	if clash[0] < 100 || clash[1] < 100 {
		t.Errorf("%v is too few of one of them", clash)
	}
}

// mayLikeWants holds May against w, for mods that have just enough, one thing
// too little, and more.
func mayLikeWants(t *testing.T, d *dice, s api.System, w wants) {
	t.Helper()
	n := rule.Needs(s)
	m := api.Mod{Reads: n.Reads | s.Filter.All | s.Filter.None, Writes: n.Writes, Life: n.Life}
	if !rule.May(m, s) {
		t.Fatalf("%v has all that %v needs, and may not", m, s)
	}
	bit := 1 << d.below(api.Kinds)
	for _, x := range []api.Mod{
		{Reads: m.Reads &^ bit, Writes: m.Writes, Life: m.Life},
		{Reads: m.Reads, Writes: m.Writes &^ bit, Life: m.Life},
		{Reads: m.Reads, Writes: m.Writes},
		{Reads: m.Reads | bit, Writes: m.Writes | 1<<d.below(api.Kinds), Life: true},
		{Reads: d.below(256), Writes: d.below(256), Life: d.below(2) == 0},
	} {
		if got := rule.May(x, s); got != w.mayBy(x, s.Filter) {
			t.Fatalf("%v may do %v: %v", x, s, got)
		}
	}
}

// TestWhatIsHandedInIsOnlyRead looks at the acts, and at the room behind them.
func TestWhatIsHandedInIsOnlyRead(t *testing.T) {
	room := []api.Act{add(0, 1), put(2, 1), spawn(3, 1), drop(0), {Kind: 99, Part: 99}, {Kind: 99}}
	for n := range len(room) + 1 {
		s := api.System{Filter: api.Filter{All: 3}, Acts: room[:n]}
		alone := s
		alone.Acts = slices.Clone(s.Acts)
		before := fmt.Sprint(room)
		got := fmt.Sprint(rule.Wrong(s), rule.Needs(s), rule.May(api.Mod{Reads: 3, Writes: 7}, s), rule.Clash(s, s))
		want := fmt.Sprint(rule.Wrong(alone), rule.Needs(alone), rule.May(api.Mod{Reads: 3, Writes: 7}, alone), rule.Clash(alone, alone))
		if got != want {
			t.Errorf("of %d acts, %s comes, not %s: what stands behind them was looked at", n, got, want)
		}
		if fmt.Sprint(room) != before {
			t.Errorf("of %d acts, something was changed", n)
		}
	}
}

// TestNothingPanics hands in systems and mods that are wrong in every way; what
// is answered of those is not said.
func TestNothingPanics(t *testing.T) {
	odd := []int{math.MinInt, -1, 0, 8, 64, 256, math.MaxInt}
	for _, x := range odd {
		for kind := -1; kind < 10; kind++ {
			a := api.Act{Kind: kind, Part: x, From: x, N: x}
			s := api.System{Mod: x, Filter: api.Filter{All: x, None: x}, Acts: slices.Repeat([]api.Act{a}, 20)}
			rule.Wrong(s)
			rule.Needs(s)
			rule.May(api.Mod{Reads: x, Writes: x}, s)
			rule.Clash(s, api.System{})
			rule.Clash(api.System{}, s)
		}
	}
}
