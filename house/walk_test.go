package house_test

import (
	"math"
	"slices"
	"testing"

	"broodhouse/api"
	"broodhouse/batch"
	"broodhouse/house"
	"broodhouse/plain"
	"broodhouse/rule"
	"broodhouse/store"
)

// dice are numbers in a fixed order that looks like none.
type dice uint64

func (d *dice) below(n int) int {
	*d = *d*6364136223846793005 + 1442695040888963407
	return int(uint64(*d) >> 33 % uint64(n))
}

// value is most often a small one, now and then at an edge, and seldom none.
func (d *dice) value() int {
	switch d.below(40) {
	case 0, 1, 2:
		return most - d.below(3)
	case 3, 4, 5:
		return d.below(3) - most
	case 6:
		return (most + 1) * (2*d.below(2) - 1)
	}
	return d.below(201) - 100
}

// set is one of few parts most often, and seldom none.
func (d *dice) set() int {
	if d.below(40) == 0 {
		return []int{-1, 256, odd, math.MaxInt}[d.below(4)]
	}
	return d.below(256) & d.below(256)
}

// part is seldom none.
func (d *dice) part() int {
	if d.below(40) == 0 {
		return []int{-1, 8, odd, math.MaxInt}[d.below(4)]
	}
	return d.below(api.Kinds)
}

// kept is a house told otherwise: each number's parts by name, and how often
// it was used.
type kept struct {
	mods    []api.Mod
	systems []api.System
	vals    [api.MaxBeing]map[int]int
	gens    []int
}

func (k *kept) copied() *kept {
	out := &kept{mods: k.mods, systems: k.systems, gens: slices.Clone(k.gens)}
	for index, vals := range k.vals {
		if vals == nil {
			continue
		}
		out.vals[index] = map[int]int{}
		for part, n := range vals {
			out.vals[index][part] = n
		}
	}
	return out
}

func (k *kept) has(index int) int {
	set := 0
	for part := range k.vals[index] {
		set += 1 << part
	}
	return set
}

// house tells k set by set, and part by part.
func (k *kept) house() api.House {
	out := api.House{Store: api.Store{Gens: k.gens}, Mods: k.mods, Systems: k.systems}
	for has := range api.Every + 1 {
		table := api.Table{Has: has, Columns: make([][]int, 0, api.Kinds)}
		for part := range api.Kinds {
			if has>>part%2 == 1 {
				table.Columns = append(table.Columns, nil)
			}
		}
		for index, vals := range k.vals {
			if vals != nil && k.has(index) == has {
				table.Beings = append(table.Beings, being(index, k.gens[index]))
				column := 0
				for part := range api.Kinds {
					if has>>part%2 == 1 {
						table.Columns[column] = append(table.Columns[column], vals[part])
						column++
					}
				}
			}
		}
		if len(table.Beings) > 0 {
			out.Store.Tables = append(out.Store.Tables, table)
		}
	}
	return out
}

// spawn tells who came, and whether there is room.
func (k *kept) spawn(has, n int) (api.Being, bool) {
	index := 0
	for index < len(k.gens) && (k.vals[index] != nil || k.gens[index] == api.MaxGen) {
		index++
	}
	if index == api.MaxBeing {
		return api.Being{}, false
	}
	if index == len(k.gens) {
		k.gens = append(k.gens, 0)
	}
	k.gens[index]++
	k.vals[index] = map[int]int{}
	for part := range api.Kinds {
		if has>>part%2 == 1 {
			k.vals[index][part] = n
		}
	}
	return being(index, k.gens[index]), true
}

// there are b's parts; nil, if it is not there.
func (k *kept) there(b api.Being) map[int]int {
	if b.Index < 0 || b.Index >= len(k.gens) || k.gens[b.Index] != b.Gen {
		return nil
	}
	return k.vals[b.Index]
}

// meets are the numbers that a filter asks for.
func (k *kept) meets(f api.Filter) []int {
	var out []int
	for index, vals := range k.vals {
		has := k.has(index)
		if vals != nil && has|f.All == has && has&f.None == 0 {
			out = append(out, index)
		}
	}
	return out
}

func clip(n int) int { return max(min(n, 1000000), -1000000) }

// run has x run; false, if there is no room.
func (k *kept) run(x api.System) bool {
	for _, index := range k.meets(x.Filter) {
		for _, a := range x.Acts {
			vals := k.vals[index]
			if a.Kind == api.Kill {
				k.vals[index] = nil
				break
			}
			switch a.Kind {
			case api.Put:
				vals[a.Part] = a.N
			case api.Copy:
				vals[a.Part] = vals[a.From]
			case api.Add:
				vals[a.Part] = clip(vals[a.Part] + vals[a.From])
			case api.More:
				vals[a.Part] = clip(vals[a.Part] + a.N)
			case api.Drop:
				delete(vals, a.Part)
			case api.Spawn:
				if _, ok := k.spawn(a.Part, a.N); !ok {
					return false
				}
			}
		}
	}
	return true
}

func isSet(n int) bool   { return n >= 0 && n < 256 }
func isPart(n int) bool  { return n >= 0 && n < 8 }
func isValue(n int) bool { return n >= -1000000 && n <= 1000000 }

// do tells what k is then, and what came of d.
func (k *kept) do(d api.Do) (*kept, api.Answer) {
	next := k.copied()
	vals := next.there(d.Being)
	_, has := vals[d.Part]
	switch d.Kind {
	case api.DoSpawn:
		if !isSet(d.Has) || !isValue(d.N) {
			return k, refused(api.ErrRange)
		}
		b, ok := next.spawn(d.Has, d.N)
		if !ok {
			return k, refused(api.ErrMany)
		}
		return next, api.Answer{Being: b}
	case api.DoKill:
		if vals == nil {
			return k, refused(api.ErrNone)
		}
		next.vals[d.Being.Index] = nil
		return next, done
	case api.DoPut:
		if vals == nil {
			return k, refused(api.ErrNone)
		}
		if !isPart(d.Part) || !isValue(d.N) {
			return k, refused(api.ErrRange)
		}
		vals[d.Part] = d.N
		return next, done
	case api.DoDrop:
		if vals == nil || !has {
			return k, refused(api.ErrNone)
		}
		delete(vals, d.Part)
		return next, done
	case api.DoSystem:
		return k.join(d.System)
	case api.DoTick:
		for _, x := range k.systems { // one by one, as they came
			if !next.run(x) {
				return k, refused(api.ErrMany)
			}
		}
		batches, _ := batch.Make(k.systems)
		return next, many(len(batches))
	case api.DoAsk:
		return k, k.ask(d.Filter, d.Part)
	}
	return k, refused(api.ErrKind)
}

func (k *kept) join(x api.System) (*kept, api.Answer) {
	if err := rule.Wrong(x).Err; err != api.OK {
		return k, refused(err)
	}
	if x.Mod >= len(k.mods) {
		return k, refused(api.ErrNone)
	}
	if !rule.May(k.mods[x.Mod], x) {
		return k, refused(api.ErrMay)
	}
	if len(k.systems) == 12 {
		return k, refused(api.ErrMany)
	}
	next := k.copied()
	next.systems = append(slices.Clone(k.systems), x)
	return next, many(len(next.systems))
}

func (k *kept) ask(f api.Filter, part int) api.Answer {
	if !isSet(f.All) || !isSet(f.None) || !isPart(part) {
		return refused(api.ErrRange)
	}
	out := api.Answer{}
	for _, index := range k.meets(f) {
		out.Beings = append(out.Beings, being(index, k.gens[index]))
		out.N += k.vals[index][part]
	}
	return out
}

// someMods are up to six; the first few may much.
func someMods(d *dice) []api.Mod {
	var l []api.Mod
	for range d.below(7) {
		m := api.Mod{Reads: d.below(256) | d.below(256), Writes: d.below(256) | d.below(256), Life: d.below(3) == 0}
		if d.below(3) == 0 {
			m = api.Mod{Reads: 255, Writes: 255, Life: d.below(2) == 0}
		}
		l = append(l, m)
	}
	return l
}

// pick is a part of set, most often.
func pick(d *dice, set int) int {
	for range 20 {
		if part := d.part(); part == part&7 && set>>part%2 == 1 {
			return part
		}
	}
	return d.part()
}

// someSystem is most often a right one.
func someSystem(d *dice, mods int) api.System {
	x := api.System{Mod: d.below(max(mods, 1)), Filter: api.Filter{All: d.set()}}
	if d.below(20) == 0 {
		x.Mod = d.below(9) - 1
	}
	if d.below(2) == 0 {
		x.Filter.None = d.set() & d.set() & d.set()
	}
	for range d.below(4) {
		a := api.Act{Kind: 1 + d.below(5), Part: d.part(), From: pick(d, x.Filter.All), N: d.value()}
		if d.below(10) == 0 {
			a.Kind = 6 + d.below(2)
		}
		if d.below(60) == 0 {
			a.Kind = d.below(10) - 1
		}
		switch a.Kind {
		case api.Add, api.More:
			a.Part = pick(d, x.Filter.All)
		case api.Spawn:
			a.Part = d.set()
		}
		x.Acts = append(x.Acts, a)
	}
	return x
}

// someBeing is one that is there, or was, most often.
func someBeing(d *dice) api.Being {
	if d.below(20) == 0 {
		return being(d.below(70)-5, d.below(4)-1)
	}
	return being(d.below(12), 1+d.below(12)/8)
}

// someThings are up to 80; kinds tells which kinds, and how often each.
func someThings(d *dice, mods int, kinds []int) []api.Do {
	var l []api.Do
	for range d.below(api.MaxDo + 1) {
		thing := api.Do{
			Kind: kinds[d.below(len(kinds))], Has: d.set(), Part: d.part(), N: d.value(),
			Being: someBeing(d), System: someSystem(d, mods), Filter: api.Filter{All: d.set() & d.set()},
		}
		if d.below(2) == 0 {
			thing.Filter.None = d.set() & d.set()
		}
		if d.below(80) == 0 {
			thing.Kind = d.below(12) - 2
		}
		l = append(l, thing)
	}
	return l
}

// someKinds are every kind; of some more than of others.
func someKinds(d *dice) []int {
	l := []int{1, 2, 3, 4, 5, 6, 7}
	for range d.below(6) {
		l = append(l, []int{1, 1, 3, 5, 5, 6, 7}[d.below(7)])
	}
	return l
}

// TestManyPlays holds Play against kept.
func TestManyPlays(t *testing.T) {
	d := dice(1)
	seen := map[int]map[api.Errno]int{}
	for range 2500 {
		mods := someMods(&d)
		l := someThings(&d, len(mods), someKinds(&d))
		h, came := played(t, mods, l)
		k := &kept{mods: mods}
		for at, thing := range l {
			var want api.Answer
			k, want = k.do(thing)
			if told(came[at]) != told(want) {
				t.Fatalf("%v of %v: thing %d answers %v, not %v", l[:at+1], mods, at, came[at], want)
			}
			if seen[thing.Kind] == nil {
				seen[thing.Kind] = map[api.Errno]int{}
			}
			seen[thing.Kind][want.Err]++
		}
		if want := k.house(); told(h) != told(want) {
			t.Fatalf("%v of %v: %v, not %v", l, mods, h, want)
		}
	}
	for kind, errs := range map[int][]api.Errno{
		api.DoSpawn:  {api.OK, api.ErrRange},
		api.DoKill:   {api.OK, api.ErrNone},
		api.DoPut:    {api.OK, api.ErrNone, api.ErrRange},
		api.DoDrop:   {api.OK, api.ErrNone},
		api.DoSystem: {api.OK, api.ErrKind, api.ErrRange, api.ErrFit, api.ErrNone, api.ErrMay, api.ErrMany},
		api.DoTick:   {api.OK, api.ErrMany},
		api.DoAsk:    {api.OK, api.ErrRange},
		0:            {api.ErrKind},
		8:            {api.ErrKind},
	} {
		for _, err := range errs {
			if seen[kind][err] < 20 {
				t.Errorf("of kind %d, %v is seen %d times", kind, err, seen[kind][err])
			}
		}
	}
}

// TestOneThingAfterTheOther: what came of a thing hangs on those ahead alone,
// and those that are refused, or only ask, may as well be left out.
func TestOneThingAfterTheOther(t *testing.T) {
	d := dice(2)
	for range 60 {
		mods := someMods(&d)
		l := someThings(&d, len(mods), someKinds(&d))
		h, came := played(t, mods, l)
		var left []api.Do
		for n := range l {
			_, some := played(t, mods, l[:n])
			if told(some) != told(came[:n]) {
				t.Fatalf("%v of %v: %v of the first %d things, and %v of all", l, mods, some, n, came[:n])
			}
			if came[n].Err == api.OK && l[n].Kind != api.DoAsk {
				left = append(left, l[n])
			}
		}
		other, _ := played(t, mods, left)
		if told(other) != told(h) {
			t.Fatalf("%v of %v: %v, and %v without those that are refused", l, mods, h, other)
		}
	}
}

// TestEveryHouseIsRight: neither its store, its mods nor its systems are
// wrong, and each system is one that its mod may have.
func TestEveryHouseIsRight(t *testing.T) {
	d := dice(3)
	for range 300 {
		mods := someMods(&d)
		h, _ := played(t, mods, someThings(&d, len(mods), someKinds(&d)))
		if f := store.Wrong(h.Store); f != (api.Fault{}) {
			t.Fatalf("%v of %v", f, h.Store)
		}
		if f := house.Wrong(h.Mods); f != (api.Fault{}) || told(h.Mods) != told(mods) {
			t.Fatalf("%v of %v", f, h.Mods)
		}
		if f := batch.Wrong(h.Systems); f != (api.Fault{}) {
			t.Fatalf("%v of %v", f, h.Systems)
		}
		for _, x := range h.Systems {
			if x.Mod >= len(mods) || !rule.May(mods[x.Mod], x) {
				t.Fatalf("%v has %v", mods, x)
			}
		}
	}
}

// TestWhatNoModMayWriteNoTickWrites: nor does anybody come or go, if no mod
// has life.
func TestWhatNoModMayWriteNoTickWrites(t *testing.T) {
	d := dice(4)
	written, lively := 0, 0
	for range 400 {
		mods := someMods(&d)
		bound, writes, life := d.below(256), 0, false
		for at := range mods {
			mods[at].Writes &= bound
			mods[at].Life = mods[at].Life && bound%2 == 0
			writes |= mods[at].Writes
			life = life || mods[at].Life
		}
		l := someThings(&d, len(mods), []int{1, 1, 1, 3, 5, 5, 5, 5})
		l = l[:min(len(l), api.MaxDo-1)]
		h, _ := played(t, mods, l)
		other, came := played(t, mods, append(slices.Clone(l), doTick()))
		if came[len(l)].Err != api.OK {
			continue
		}
		before, after := store.World(h.Store), store.World(other.Store)
		if told(before) != told(after) {
			written++
		}
		there := plain.Match(after, api.Filter{})
		if same := told(plain.Match(before, api.Filter{})) == told(there); !same && !life {
			t.Fatalf("without life %v becomes %v", before, after)
		} else if !same {
			lively++
		}
		for _, b := range there {
			for part := range api.Kinds {
				n, had := plain.Get(before, b, part)
				m, has := plain.Get(after, b, part)
				if writes>>part%2 == 0 && (n != m || had != has) {
					t.Fatalf("%v: part %d of %v is %d %v, and was %d %v", mods, part, b, m, has, n, had)
				}
			}
		}
	}
	if written < 50 || lively < 10 {
		t.Errorf("%d ticks write, and in %d somebody comes or goes", written, lively)
	}
}

// TestNothingPanics hands in things that are wrong in every way.
func TestNothingPanics(t *testing.T) {
	far := []int{math.MinInt, -1, 0, 1, 6, 8, 60, 256, 1001, math.MaxInt}
	for _, n := range far {
		for _, m := range far {
			for kind := -1; kind < 10; kind++ {
				a := api.Act{Kind: kind, Part: n, From: m, N: n}
				thing := api.Do{
					Kind: kind, Has: n, Part: m, N: n, Being: being(m, n), Filter: api.Filter{All: n, None: m},
					System: api.System{Mod: m, Filter: api.Filter{All: n, None: m}, Acts: []api.Act{a, a}},
				}
				soft := doSystem(system(0, 1, 0, a, a))
				l := do(thing, doSpawn(1, 1), soft, thing, doTick(), thing)
				house.Play([]api.Mod{all}, l)
				house.Play([]api.Mod{{Reads: n, Writes: m}}, l)
				house.Play(nil, l)
			}
		}
	}
}
