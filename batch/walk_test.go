package batch_test

import (
	"slices"
	"testing"

	"broodhouse/api"
	"broodhouse/batch"
	"broodhouse/rule"
	"broodhouse/run"
	"broodhouse/store"
)

// dice are numbers in a fixed order that looks like none.
type dice uint64

func (d *dice) below(n int) int {
	*d = *d*6364136223846793005 + 1442695040888963407
	return int(uint64(*d) >> 33 % uint64(n))
}

// part is one of set; 0, if it has none.
func (d *dice) part(set int) int {
	var l []int
	for part := range api.Kinds {
		if set>>part%2 == 1 {
			l = append(l, part)
		}
	}
	if len(l) == 0 {
		return 0
	}
	return l[d.below(len(l))]
}

// someSystem has few acts, most often of its own parts, so that two of them
// do not always clash.
func someSystem(d *dice) api.System {
	x := system(1<<d.below(8)|1<<d.below(8), 0)
	if d.below(3) == 0 {
		x.Filter.None = 1 << d.below(8)
	}
	for range d.below(3) {
		own, other := d.part(x.Filter.All), d.part(x.Filter.All)
		acts := []api.Act{put(own, d.below(100)), cp(own, other), add(own, other), more(own, d.below(9)-4)}
		x.Acts = append(x.Acts, acts[d.below(4)])
	}
	if d.below(12) == 0 {
		acts := []api.Act{kill(), spawn(d.below(256), 1), put(d.below(8), 3), drop(d.below(8))}
		x.Acts = append(x.Acts, acts[d.below(4)])
	}
	return x
}

func someSystems(d *dice) []api.System {
	var l []api.System
	for range d.below(api.MaxSystems + 1) {
		l = append(l, someSystem(d))
	}
	return l
}

// batchesBy is another telling of Make: a system's batch has the number of
// how many stand ahead of it in the longest row of those that clash one by one.
func batchesBy(l []api.System) [][]int {
	var level func(number int) int
	level = func(number int) int {
		at := 0
		for ahead := range number {
			if rule.Clash(l[number], l[ahead]) {
				at = max(at, level(ahead)+1)
			}
		}
		return at
	}
	out := make([][]int, len(l))
	for number := range l {
		at := level(number)
		out[at] = append(out[at], number)
	}
	return slices.DeleteFunc(out, func(b []int) bool { return len(b) == 0 })
}

func TestManyLists(t *testing.T) {
	d := dice(6)
	depth := map[int]int{}
	for range 3000 {
		l := someSystems(&d)
		got, f := batch.Make(l)
		if want := batchesBy(l); f != (api.Fault{}) || told(got) != told(want) {
			t.Fatalf("%v: %v %v, not %v", l, got, f, want)
		}
		depth[len(got)]++
	}
	for n := range 8 {
		if depth[n] < 20 {
			t.Errorf("%d batches are seen %d times", n, depth[n])
		}
	}
}

func TestEachOnceAndNoneClashes(t *testing.T) {
	d := dice(7)
	for range 3000 {
		l := someSystems(&d)
		batches, _ := batch.Make(l)
		seen := make([]int, len(l))
		for _, b := range batches {
			if len(b) == 0 || !slices.IsSorted(b) {
				t.Fatalf("%v: %v has a batch %v", l, batches, b)
			}
			for i, number := range b {
				seen[number]++
				for _, other := range b[:i] {
					if rule.Clash(l[number], l[other]) {
						t.Fatalf("%v: %d and %d clash in %v", l, number, other, batches)
					}
				}
			}
		}
		if told(seen) != told(slices.Repeat([]int{1}, len(l))) {
			t.Fatalf("%v: %v has not each once", l, batches)
		}
		if told(batch.Order(batches)) != told(slices.Concat(batches...)) {
			t.Fatalf("%v is in the order %v", batches, batch.Order(batches))
		}
	}
}

func someStore(t *testing.T, d *dice) api.Store {
	t.Helper()
	var s api.Store
	for range d.below(20) {
		next, b, err := store.Spawn(s, d.below(256)|d.below(256), d.below(50))
		if err != api.OK {
			t.Fatal(err)
		}
		if s, err = store.Put(next, b, d.below(8), d.below(1000)); err != api.OK {
			t.Fatal(err)
		}
	}
	return s
}

// inOrder is the systems of those numbers.
func inOrder(l []api.System, numbers []int) []api.System {
	var out []api.System
	for _, number := range numbers {
		out = append(out, l[number])
	}
	return out
}

// turnRound is batches with each of them in another order.
func turnRound(d *dice, batches [][]int) [][]int {
	var out [][]int
	for _, b := range batches {
		b = slices.Clone(b)
		for i := range b {
			k := i + d.below(len(b)-i)
			b[i], b[k] = b[k], b[i]
		}
		out = append(out, b)
	}
	return out
}

// TestBatchByBatchAsOneByOne runs systems as they stand, in the order of their
// batches, and in any order within these.
func TestBatchByBatchAsOneByOne(t *testing.T) {
	d := dice(8)
	for range 300 {
		s, l := someStore(t, &d), someSystems(&d)
		want, f := run.All(s, l)
		batches, _ := batch.Make(l)
		for _, b := range [][][]int{batches, turnRound(&d, batches)} {
			got, f2 := run.All(s, inOrder(l, batch.Order(b)))
			if f.Err != f2.Err || told(got) != told(want) {
				t.Fatalf("%v of %v, as %v: %v %v, not %v %v", l, s, b, got, f2, want, f)
			}
		}
	}
}
