package plain_test

import (
	"slices"
	"testing"

	"broodhouse/api"
	"broodhouse/plain"
)

// kept is a world told otherwise: each number's parts by name, and how often
// it was used.
type kept struct {
	vals [api.MaxBeing]map[int]int
	gens []int
}

// world tells k as rows.
func (k *kept) world() api.World {
	w := api.World{Gens: slices.Clone(k.gens)}
	for index, vals := range k.vals {
		if vals == nil {
			continue
		}
		r := row(index, k.gens[index], 0)
		for part, n := range vals {
			r.Has += 1 << part
			r.Vals[part] = n
		}
		w.Rows = append(w.Rows, r)
	}
	return w
}

func (k *kept) there(b api.Being) bool {
	return 0 <= b.Index && b.Index < len(k.gens) && k.gens[b.Index] == b.Gen && k.vals[b.Index] != nil
}

func (k *kept) spawn(has, n int) (api.Being, bool) {
	index := 0
	for index < len(k.gens) && (k.vals[index] != nil || k.gens[index] == api.MaxGen) {
		index++
	}
	if index == api.MaxBeing {
		return api.Being{}, false
	}
	if index == len(k.gens) {
		k.gens = append(k.gens, 0)
	}
	k.gens[index]++
	k.vals[index] = map[int]int{}
	for part := range api.Kinds {
		if has>>part%2 == 1 {
			k.vals[index][part] = n
		}
	}
	return being(index, k.gens[index]), true
}

// dice are numbers in a fixed order that looks like none.
type dice uint64

func (d *dice) below(n int) int {
	*d = *d*6364136223846793005 + 1442695040888963407
	return int(uint64(*d) >> 33 % uint64(n))
}

// TestALongWalk holds many steps, one behind the other, against kept.
func TestALongWalk(t *testing.T) {
	d := dice(1)
	w, k := api.World{}, &kept{}
	for step := range 20000 {
		b := being(d.below(62), 1+d.below(4))
		if len(w.Rows) > 0 && d.below(8) > 0 {
			b = w.Rows[d.below(len(w.Rows))].Being
		}
		next, err := stepOn(t, &d, w, k, b)
		if err == api.OK {
			w = next
		} else if !empty(next) {
			t.Fatalf("step %d: %v beside %v", step, next, err)
		}
		if !same(w, k.world()) || plain.Wrong(w).Err != api.OK {
			t.Fatalf("step %d: %v, not %v", step, w, k.world())
		}
	}
}

// stepOn takes one step, in w and in k alike.
func stepOn(t *testing.T, d *dice, w api.World, k *kept, b api.Being) (api.World, api.Errno) {
	part, n, has := d.below(api.Kinds), d.below(2001)-1000, d.below(256)
	switch d.below(5) {
	case 0, 1:
		next, came, err := plain.Spawn(w, has, n)
		want, room := k.spawn(has, n)
		if came != want || room != (err == api.OK) {
			t.Fatalf("%v %v comes, not %v", came, err, want)
		}
		return next, err
	case 2:
		next, err := plain.Kill(w, b)
		expect(t, err, k.there(b))
		if err == api.OK {
			k.vals[b.Index] = nil
		}
		return next, err
	case 3:
		next, err := plain.Put(w, b, part, n)
		expect(t, err, k.there(b))
		if err == api.OK {
			k.vals[b.Index][part] = n
		}
		return next, err
	}
	next, err := plain.Drop(w, b, part)
	has2 := k.there(b)
	if has2 {
		_, has2 = k.vals[b.Index][part]
	}
	expect(t, err, has2)
	if err == api.OK {
		delete(k.vals[b.Index], part)
	}
	return next, err
}

// expect: OK where it is there, else ErrNone.
func expect(t *testing.T, err api.Errno, there bool) {
	t.Helper()
	if there != (err == api.OK) || !there && err != api.ErrNone {
		t.Fatalf("%v, and it is there: %v", err, there)
	}
}
