package run_test

import (
	"math"
	"slices"
	"testing"

	"broodhouse/api"
	"broodhouse/plain"
	"broodhouse/rule"
	"broodhouse/run"
	"broodhouse/store"
)

// dice are numbers in a fixed order that looks like none.
type dice uint64

func (d *dice) below(n int) int {
	*d = *d*6364136223846793005 + 1442695040888963407
	return int(uint64(*d) >> 33 % uint64(n))
}

// value is most often a small one, and now and then at an edge.
func (d *dice) value() int {
	switch d.below(8) {
	case 0:
		return most - d.below(3)
	case 1:
		return d.below(3) - most
	}
	return d.below(201) - 100
}

// few is a set, of few parts most often.
func (d *dice) few() int { return d.below(256) & d.below(256) & d.below(256) }

// kept is a store told otherwise: each number's parts by name, and how often
// it was used.
type kept struct {
	vals [api.MaxBeing]map[int]int
	gens []int
}

func keptOf(s api.Store) *kept {
	k := &kept{gens: slices.Clone(s.Gens)}
	for _, t := range s.Tables {
		for i, b := range t.Beings {
			k.vals[b.Index] = map[int]int{}
			column := 0
			for part := range api.Kinds {
				if t.Has>>part%2 == 1 {
					k.vals[b.Index][part] = t.Columns[column][i]
					column++
				}
			}
		}
	}
	return k
}

func (k *kept) has(index int) int {
	set := 0
	for part := range k.vals[index] {
		set += 1 << part
	}
	return set
}

// store tells k set by set, and part by part.
func (k *kept) store() api.Store {
	var who [api.Every + 1][]int
	for index, vals := range k.vals {
		if vals != nil {
			who[k.has(index)] = append(who[k.has(index)], index)
		}
	}
	out := api.Store{Gens: slices.Clone(k.gens)}
	for has, l := range who {
		if len(l) > 0 {
			out.Tables = append(out.Tables, k.table(has, l))
		}
	}
	return out
}

// table is that of those numbers, all of which have the parts of has.
func (k *kept) table(has int, who []int) api.Table {
	t := api.Table{Has: has}
	for _, index := range who {
		t.Beings = append(t.Beings, being(index, k.gens[index]))
	}
	for part := range api.Kinds {
		if has>>part%2 == 0 {
			continue
		}
		var column []int
		for _, index := range who {
			column = append(column, k.vals[index][part])
		}
		t.Columns = append(t.Columns, column)
	}
	return t
}

// spawn tells whether there is room.
func (k *kept) spawn(has, n int) bool {
	index := 0
	for index < len(k.gens) && (k.vals[index] != nil || k.gens[index] == api.MaxGen) {
		index++
	}
	if index == api.MaxBeing {
		return false
	}
	if index == len(k.gens) {
		k.gens = append(k.gens, 0)
	}
	k.gens[index]++
	k.vals[index] = map[int]int{}
	for part := range api.Kinds {
		if has>>part%2 == 1 {
			k.vals[index][part] = n
		}
	}
	return true
}

// clip is the nearest value to n.
func clip(n int) int {
	if n > 1000000 {
		return 1000000
	}
	if n < -1000000 {
		return -1000000
	}
	return n
}

// run has x, which is right, run on k; false, if there is no room.
func (k *kept) run(x api.System) bool {
	var asked []int
	for index, vals := range k.vals {
		has := k.has(index)
		if vals != nil && has|x.Filter.All == has && has&x.Filter.None == 0 {
			asked = append(asked, index)
		}
	}
	for _, index := range asked {
		for _, a := range x.Acts {
			vals := k.vals[index]
			if a.Kind == api.Kill {
				k.vals[index] = nil
				break
			}
			switch a.Kind {
			case api.Put:
				vals[a.Part] = a.N
			case api.Copy:
				vals[a.Part] = vals[a.From]
			case api.Add:
				vals[a.Part] = clip(vals[a.Part] + vals[a.From])
			case api.More:
				vals[a.Part] = clip(vals[a.Part] + a.N)
			case api.Drop:
				delete(vals, a.Part)
			case api.Spawn:
				if !k.spawn(a.Part, a.N) {
					return false
				}
			}
		}
	}
	return true
}

// someStore is a right one, of a few beings, of some numbers used up, or of
// nearly as many as may be.
func someStore(d *dice) api.Store {
	k := &kept{}
	for range []int{d.below(3), d.below(12), 40 + d.below(21)}[d.below(3)] {
		k.gens = append(k.gens, []int{1 + d.below(3), 998 + d.below(3)}[d.below(2)])
		if d.below(4) == 0 {
			continue
		}
		vals := map[int]int{}
		for part := range api.Kinds {
			if d.below(2) == 0 {
				vals[part] = d.value()
			}
		}
		k.vals[len(k.gens)-1] = vals
	}
	return k.store()
}

// readable picks a part of set; 0, if it has none.
func readable(d *dice, set int) int {
	part := d.below(api.Kinds)
	for range api.Kinds {
		if set>>part%2 == 1 {
			return part
		}
		part = (part + 1) % api.Kinds
	}
	return 0
}

// someSystem is a right one, of acts of kinds.
func someSystem(d *dice, kinds ...int) api.System {
	x := api.System{Mod: d.below(api.MaxMods), Filter: api.Filter{All: d.few()}}
	if d.below(2) == 0 {
		x.Filter.None = d.few() & d.below(256)
	}
	for range d.below(9) {
		a := api.Act{Kind: kinds[d.below(len(kinds))], Part: d.below(api.Kinds), From: readable(d, x.Filter.All), N: d.value()}
		switch a.Kind {
		case api.Add, api.More:
			a.Part = readable(d, x.Filter.All)
		case api.Spawn:
			a.Part = d.below(256)
		}
		x.Acts = append(x.Acts, a)
		if rule.Wrong(x).Err != api.OK {
			x.Acts = x.Acts[:len(x.Acts)-1]
		}
	}
	return x
}

// everyKind has Kill and Spawn seldom: most often there would be nobody left,
// or no room.
func everyKind(d *dice) []int {
	l := []int{api.Put, api.Copy, api.Add, api.More, api.Drop}
	switch d.below(4) {
	case 0:
		return append(l, api.Kill)
	case 1:
		return append(l, api.Kill, api.Spawn, api.Spawn)
	}
	return l
}

// TestManyRuns holds Run against kept.
func TestManyRuns(t *testing.T) {
	d := dice(1)
	seen := map[api.Errno]int{}
	for range 6000 {
		s, x := someStore(&d), someSystem(&d, everyKind(&d)...)
		got, err := run.Run(s, x)
		seen[err]++
		k, want, wantErr := keptOf(s), api.Store{}, api.ErrMany
		if k.run(x) {
			want, wantErr = k.store(), api.OK
		}
		if err != wantErr || told(got) != told(want) {
			t.Fatalf("%v of %v: %v %v, not %v %v", x, s, got, err, want, wantErr)
		}
	}
	if seen[api.OK] < 1000 || seen[api.ErrMany] < 100 {
		t.Errorf("%v is too few of one of them", seen)
	}
}

// TestManyLists holds All against kept, and against Run one by one; some
// systems of the lists are wrong.
func TestManyLists(t *testing.T) {
	d := dice(2)
	seen := map[api.Errno]int{}
	for range 2000 {
		s := someStore(&d)
		var l []api.System
		for range d.below(7) {
			l = append(l, someSystem(&d, everyKind(&d)...))
			if d.below(20) == 0 {
				l[len(l)-1].Mod = api.MaxMods
			}
		}
		got, fault := run.All(s, l)
		seen[fault.Err]++
		want, wantFault := oneByOne(s, l)
		if fault != wantFault || told(got) != told(want) {
			t.Fatalf("%v of %v: %v %v, not %v %v", l, s, got, fault, want, wantFault)
		}
		step, at := s, 0
		for at < len(l) {
			next, err := run.Run(step, l[at])
			if err != api.OK {
				step = next
				break
			}
			step, at = next, at+1
		}
		if told(step) != told(got) || fault.Err != api.OK && fault.At != at {
			t.Fatalf("%v of %v: %v %v, and one by one %v at %d", l, s, got, fault, step, at)
		}
	}
	for _, err := range []api.Errno{api.OK, api.ErrMany, api.ErrRange} {
		if seen[err] < 50 {
			t.Errorf("%v is seen %d times", err, seen[err])
		}
	}
}

// oneByOne is what kept tells of l.
func oneByOne(s api.Store, l []api.System) (api.Store, api.Fault) {
	k := keptOf(s)
	for at, x := range l {
		if x.Mod == api.MaxMods {
			return api.Store{}, api.Fault{Err: api.ErrRange, At: at}
		}
		if !k.run(x) {
			return api.Store{}, api.Fault{Err: api.ErrMany, At: at}
		}
	}
	return k.store(), api.Fault{}
}

// valueKinds are those by which nobody comes or goes.
var valueKinds = []int{api.Put, api.Copy, api.Add, api.More, api.Drop}

func TestWhatASystemDoesNotWriteIsAsItWas(t *testing.T) {
	d := dice(3)
	for range 2000 {
		s := someStore(&d)
		x := someSystem(&d, valueKinds...)
		got, _ := run.Run(s, x)
		writes := rule.Needs(x).Writes
		asked := store.Match(s, x.Filter)
		then, now := store.World(s), store.World(got)
		for _, b := range store.Match(s, api.Filter{}) {
			for part := range api.Kinds {
				n, ok := plain.Get(then, b, part)
				m, still := plain.Get(now, b, part)
				left := writes>>part%2 == 0 || !slices.Contains(asked, b)
				if left && (n != m || ok != still) {
					t.Fatalf("%v of %v: part %d of %v is %d %v, and was %d %v", x, s, part, b, m, still, n, ok)
				}
			}
		}
	}
}

func TestWhatASystemDoesNotReadIsNoMatter(t *testing.T) {
	d := dice(4)
	for range 2000 {
		s := someStore(&d)
		x := someSystem(&d, valueKinds...)
		need := rule.Needs(x)
		other := store.Own(s)
		for _, table := range other.Tables {
			column := 0
			for part := range api.Kinds {
				if table.Has>>part%2 == 0 {
					continue
				}
				if need.Reads>>part%2 == 0 {
					for i := range table.Columns[column] {
						table.Columns[column][i] = d.value()
					}
				}
				column++
			}
		}
		got, _ := run.Run(s, x)
		otherGot, _ := run.Run(other, x)
		here, elsewhere := store.World(got), store.World(otherGot)
		for _, b := range store.Match(s, x.Filter) {
			for part := range api.Kinds {
				n, ok := plain.Get(here, b, part)
				m, there := plain.Get(elsewhere, b, part)
				if ok != there || n != m && (need.Reads|need.Writes)>>part%2 == 1 {
					t.Fatalf("%v of %v and of %v: part %d of %v is %d %v and %d %v", x, s, other, part, b, n, ok, m, there)
				}
			}
		}
	}
}

func TestSystemsThatDoNotClashRunInAnyOrder(t *testing.T) {
	d := dice(5)
	times := 0
	for range 6000 {
		a, b := someSystem(&d, api.Put, api.Copy, api.Add, api.More), someSystem(&d, api.Put, api.Copy, api.Add, api.More)
		a.Acts, b.Acts = a.Acts[:min(2, len(a.Acts))], b.Acts[:min(2, len(b.Acts))]
		if rule.Clash(a, b) {
			continue
		}
		times++
		s := someStore(&d)
		one, fault := run.All(s, []api.System{a, b})
		other, otherFault := run.All(s, []api.System{b, a})
		if fault != otherFault || told(one) != told(other) {
			t.Fatalf("%v and %v of %v: %v %v, and the other way %v %v", a, b, s, one, fault, other, otherFault)
		}
	}
	if times < 300 {
		t.Errorf("only %d do not clash", times)
	}
}

// TestNothingPanics hands in stores and systems that are wrong in every way,
// and systems that are wrong to right stores.
func TestNothingPanics(t *testing.T) {
	far := []int{math.MinInt, -1, 0, 1, 8, 60, 256, 1001, math.MaxInt}
	for _, n := range far {
		for kind := -1; kind < 10; kind++ {
			a := api.Act{Kind: kind, Part: n, From: n, N: n}
			x := api.System{Mod: n, Filter: api.Filter{All: n, None: n}, Acts: []api.Act{a, a}}
			soft := api.System{Acts: []api.Act{a, a}}
			s := api.Store{Gens: []int{n, 1}, Tables: []api.Table{{Has: n, Beings: []api.Being{being(n, n)}, Columns: [][]int{{n}, nil}}}}
			for _, in := range []api.Store{s, {}, full(t)} {
				for _, y := range []api.System{x, soft} {
					run.Run(in, y)
					run.All(in, []api.System{soft, y, x})
				}
			}
		}
	}
}
