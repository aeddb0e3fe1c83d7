package store_test

import (
	"math"
	"slices"
	"sort"
	"testing"

	"broodhouse/api"
	"broodhouse/plain"
	"broodhouse/store"
)

// dice are numbers in a fixed order that looks like none.
type dice uint64

func (d *dice) below(n int) int {
	*d = *d*6364136223846793005 + 1442695040888963407
	return int(uint64(*d) >> 33 % uint64(n))
}

// tablesOf is the store of a right world, set by set and part by part.
func tablesOf(w api.World) api.Store {
	out := api.Store{Gens: slices.Clone(w.Gens)}
	for has := range api.Every + 1 {
		t := api.Table{Has: has}
		for _, r := range w.Rows {
			if r.Has == has {
				t.Beings = append(t.Beings, r.Being)
			}
		}
		for part := range api.Kinds {
			if has>>part%2 == 0 {
				continue
			}
			var column []int
			for _, r := range w.Rows {
				if r.Has == has {
					column = append(column, r.Vals[part])
				}
			}
			t.Columns = append(t.Columns, column)
		}
		if len(t.Beings) > 0 {
			out.Tables = append(out.Tables, t)
		}
	}
	return out
}

// TestStepByStepTheSame takes a long walk in a store and in a world alike.
func TestStepByStepTheSame(t *testing.T) {
	d := dice(1)
	s, w := api.Store{}, api.World{}
	for step := range 2500 {
		next, want, err := stepOn(t, &d, s, w)
		if err != api.OK {
			if told(next) != noStore {
				t.Fatalf("step %d: %v beside %v", step, next, err)
			}
			continue
		}
		s, w = next, want
		if told(s) != told(tablesOf(w)) || store.Wrong(s) != (api.Fault{}) || told(store.World(s)) != told(w) {
			t.Fatalf("step %d: %v, not %v", step, s, tablesOf(w))
		}
		f := api.Filter{All: d.below(256) & d.below(256), None: d.below(256) & d.below(256)}
		if got := store.Match(s, f); !slices.Equal(got, plain.Match(w, f)) {
			t.Fatalf("step %d: %v are told of %v", step, got, f)
		}
		b, part := someone(&d, w), d.below(10)-1
		n, ok := store.Get(s, b, part)
		if m, there := plain.Get(w, b, part); n != m || ok != there {
			t.Fatalf("step %d: %d of %v is %d %v, not %d %v", step, part, b, n, ok, m, there)
		}
	}
}

// someone is most often one who is there.
func someone(d *dice, w api.World) api.Being {
	if len(w.Rows) > 0 && d.below(8) > 0 {
		return w.Rows[d.below(len(w.Rows))].Being
	}
	return being(d.below(62)-1, 1+d.below(4))
}

// stepOn takes one step, in s and in w alike. Few sets and few parts, so that
// tables come to hold several beings.
func stepOn(t *testing.T, d *dice, s api.Store, w api.World) (api.Store, api.World, api.Errno) {
	t.Helper()
	b, part, has, n := someone(d, w), d.below(4), d.below(9), d.below(2001)-1000
	switch d.below(20) {
	case 0:
		part, has = d.below(10)-1, d.below(258)-1
	case 1:
		n = 1000001
	}
	var next api.Store
	var want api.World
	var err, wantErr api.Errno
	switch d.below(5) {
	case 0, 1:
		var came, wantCame api.Being
		next, came, err = store.Spawn(s, has, n)
		want, wantCame, wantErr = plain.Spawn(w, has, n)
		if came != wantCame {
			t.Fatalf("%v comes, not %v", came, wantCame)
		}
	case 2:
		next, err = store.Kill(s, b)
		want, wantErr = plain.Kill(w, b)
	case 3:
		next, err = store.Put(s, b, part, n)
		want, wantErr = plain.Put(w, b, part, n)
	default:
		next, err = store.Drop(s, b, part)
		want, wantErr = plain.Drop(w, b, part)
	}
	if err != wantErr {
		t.Fatalf("%v, not %v", err, wantErr)
	}
	return next, want, err
}

// wrongOf tells what is wrong with s, fault by fault as they are named.
func wrongOf(s api.Store) api.Fault {
	type numbered struct {
		row api.Row
		at  int
	}
	var rows []numbered
	for at, t := range s.Tables {
		no := func(err api.Errno) api.Fault { return api.Fault{Err: err, At: at} }
		if t.Has != t.Has&255 {
			return no(api.ErrRange)
		}
		var held []int
		for part := range 8 {
			if t.Has>>part&1 == 1 {
				held = append(held, part)
			}
		}
		if len(t.Beings) == 0 || len(t.Columns) != len(held) {
			return no(api.ErrMany)
		}
		for _, column := range t.Columns {
			if len(column) != len(t.Beings) {
				return no(api.ErrMany)
			}
			if slices.Max(column) > 1000000 || slices.Min(column) < -1000000 {
				return no(api.ErrRange)
			}
		}
		for i, b := range t.Beings {
			if i > 0 && b.Index <= t.Beings[i-1].Index {
				return no(api.ErrForm)
			}
			r := api.Row{Being: b, Has: t.Has}
			for k, part := range held {
				r.Vals[part] = t.Columns[k][i]
			}
			rows = append(rows, numbered{r, at})
		}
		if at > 0 && s.Tables[at-1].Has >= t.Has {
			return no(api.ErrForm)
		}
	}
	sort.Slice(rows, func(i, j int) bool {
		a, b := rows[i], rows[j]
		return a.row.Being.Index < b.row.Being.Index || a.row.Being.Index == b.row.Being.Index && a.at < b.at
	})
	w := api.World{Gens: s.Gens}
	for _, x := range rows {
		w.Rows = append(w.Rows, x.row)
	}
	return api.Fault{Err: plain.Wrong(w).Err}
}

// odd is a number, most often a small one.
func odd(d *dice) int {
	far := [...]int{math.MinInt, math.MaxInt, -1000001, 1000001, -1, 61, 255, 256, 1000, 1001}
	if d.below(12) == 0 {
		return far[d.below(len(far))]
	}
	return d.below(4)
}

// bend changes one thing of s, which is the test's own.
func bend(d *dice, s api.Store) api.Store {
	if len(s.Tables) == 0 || d.below(6) == 0 {
		s.Gens = append(s.Gens, odd(d))
		return s
	}
	t := &s.Tables[d.below(len(s.Tables))]
	switch d.below(9) {
	case 0:
		t.Has = odd(d)
	case 1:
		t.Beings = append(t.Beings, being(odd(d), odd(d)))
	case 2:
		t.Beings = t.Beings[:d.below(len(t.Beings)+1)]
	case 3:
		t.Columns = append(t.Columns, []int{odd(d)})
	case 4:
		t.Columns = t.Columns[:d.below(len(t.Columns)+1)]
	case 5:
		if len(t.Columns) > 0 {
			k := d.below(len(t.Columns))
			t.Columns[k] = append(t.Columns[k], odd(d))
		}
	case 6:
		if len(t.Columns) > 0 && len(t.Columns[0]) > 0 {
			t.Columns[0][d.below(len(t.Columns[0]))] = odd(d)
		}
	case 7:
		if len(t.Beings) > 0 {
			t.Beings[d.below(len(t.Beings))] = being(odd(d), odd(d))
		}
	default:
		i, k := d.below(len(s.Tables)), d.below(len(s.Tables))
		s.Tables[i], s.Tables[k] = s.Tables[k], s.Tables[i]
	}
	return s
}

// TestBentStores holds stores that are most often wrong, in one way or in
// several, against wrongOf; no call may panic, and all refuse alike.
func TestBentStores(t *testing.T) {
	d := dice(2)
	seen := map[api.Errno]int{}
	for range 20000 {
		s := bentStore(&d)
		want := wrongOf(s)
		if got := store.Wrong(s); got != want {
			t.Fatalf("%v: %v, not %v", s, got, want)
		}
		seen[want.Err]++
		if told(store.Own(s)) != told(s) {
			t.Fatalf("%v is copied as %v", s, store.Own(s))
		}
		if want.Err != api.OK {
			refuses(t, &d, s, want.Err)
		} else if back, fault := store.Of(store.World(s)); told(back) != told(s) || fault != want {
			t.Fatalf("%v comes back as %v %v", s, back, fault)
		}
	}
	for _, err := range []api.Errno{api.OK, api.ErrForm, api.ErrRange, api.ErrMany, api.ErrFit} {
		if seen[err] < 50 {
			t.Errorf("%v is seen %d times", err, seen[err])
		}
	}
}

// bentStore is a small right store, bent at most thrice.
func bentStore(d *dice) api.Store {
	w := api.World{}
	for range d.below(5) {
		w, _, _ = plain.Spawn(w, d.below(4), odd(d)%1000001)
	}
	s := tablesOf(w)
	for range d.below(4) {
		s = bend(d, s)
	}
	return s
}

// refuses: whatever is asked of s, that error comes of it.
func refuses(t *testing.T, d *dice, s api.Store, want api.Errno) {
	t.Helper()
	b, part, n := being(odd(d), odd(d)), odd(d), odd(d)
	a, came, err := store.Spawn(s, part, n)
	k, err2 := store.Kill(s, b)
	p, err3 := store.Put(s, b, part, n)
	x, err4 := store.Drop(s, b, part)
	nothing := api.Store{}
	if told(a, came, err, k, err2, p, err3, x, err4) != told(nothing, api.Being{}, want, nothing, want, nothing, want, nothing, want) {
		t.Fatalf("%v: %v %v %v, %v %v, %v %v, %v %v, not %v", s, a, came, err, k, err2, p, err3, x, err4, want)
	}
	store.World(s)
	store.Get(s, b, part)
	store.Match(s, api.Filter{All: part, None: n})
}
