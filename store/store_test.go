package store_test

import (
	"fmt"
	"math"
	"math/bits"
	"slices"
	"testing"

	"broodhouse/api"
	"broodhouse/plain"
	"broodhouse/store"
)

func being(index, gen int) api.Being { return api.Being{Index: index, Gen: gen} }

func beings(list ...api.Being) []api.Being { return list }

func row(index, gen, has int, vals ...int) api.Row {
	r := api.Row{Being: being(index, gen), Has: has}
	copy(r.Vals[:], vals)
	return r
}

func table(has int, who []api.Being, columns ...[]int) api.Table {
	return api.Table{Has: has, Beings: who, Columns: columns}
}

func keep(gens []int, tables ...api.Table) api.Store {
	return api.Store{Tables: tables, Gens: gens}
}

// told is how a value reads: nil and empty lists read alike.
func told(l ...any) string { return fmt.Sprint(l...) }

const (
	noStore = "{[] []}"
	noWorld = "{[] []}"
)

// four is a right store of four beings in three tables; number 1 is free.
func four() api.Store {
	return keep([]int{1, 7, 3, 1000, 2},
		table(0, beings(being(2, 3))),
		table(5, beings(being(0, 1), being(4, 2)), []int{7, 1}, []int{-7, 0}),
		table(255, beings(being(3, 1000)),
			[]int{1}, []int{2}, []int{3}, []int{4}, []int{5}, []int{6}, []int{api.MaxValue}, []int{-api.MaxValue}))
}

// fourRows is the world of four.
func fourRows() api.World {
	return api.World{
		Rows: []api.Row{
			row(0, 1, 5, 7, 0, -7),
			row(2, 3, 0),
			row(3, 1000, 255, 1, 2, 3, 4, 5, 6, api.MaxValue, -api.MaxValue),
			row(4, 2, 5, 1),
		},
		Gens: []int{1, 7, 3, 1000, 2},
	}
}

// faulty are stores, each with what is wrong with it.
func faulty() map[string]struct {
	s    api.Store
	want api.Fault
} {
	type fault = struct {
		s    api.Store
		want api.Fault
	}
	one, two, both := beings(being(0, 1)), beings(being(1, 1)), beings(being(0, 1), being(1, 1))
	gens := []int{1, 1}
	good := table(1, one, []int{5})
	is := func(err api.Errno, at int, s api.Store) fault { return fault{s, api.Fault{Err: err, At: at}} }
	return map[string]fault{
		"has 256":                           is(api.ErrRange, 1, keep(gens, good, table(256, two))),
		"has below 0":                       is(api.ErrRange, 0, keep(gens, table(-1, one))),
		"the outermost has":                 is(api.ErrRange, 0, keep(gens, table(math.MinInt, one))),
		"has is told ahead of beings":       is(api.ErrRange, 0, keep(gens, table(256, nil))),
		"no beings":                         is(api.ErrMany, 1, keep(gens, good, table(2, nil, nil))),
		"no beings, and no parts":           is(api.ErrMany, 0, keep(gens, table(0, nil))),
		"a column too few":                  is(api.ErrMany, 0, keep(gens, table(3, one, []int{5}))),
		"a column too many":                 is(api.ErrMany, 1, keep(gens, good, table(2, two, []int{5}, []int{5}))),
		"a column of no part":               is(api.ErrMany, 0, keep(gens, table(0, one, []int{5}))),
		"an empty column of no part":        is(api.ErrMany, 0, keep(gens, table(0, one, nil))),
		"no columns":                        is(api.ErrMany, 0, keep(gens, table(1, one))),
		"columns are told ahead of values":  is(api.ErrMany, 0, keep(gens, table(3, one, []int{1000001}))),
		"a value too few":                   is(api.ErrMany, 0, keep(gens, table(3, both, []int{5, 5}, []int{5}))),
		"a value too many":                  is(api.ErrMany, 1, keep(gens, good, table(2, two, []int{5, 5}))),
		"no values":                         is(api.ErrMany, 0, keep(gens, table(1, one, nil))),
		"a value too large":                 is(api.ErrRange, 1, keep(gens, good, table(2, two, []int{1000001}))),
		"a value too small":                 is(api.ErrRange, 0, keep(gens, table(1, both, []int{5, -1000001}))),
		"the outermost value":               is(api.ErrRange, 0, keep(gens, table(1, one, []int{math.MinInt}))),
		"a column's length ahead of values": is(api.ErrMany, 0, keep(gens, table(1, one, []int{1000001, 5}))),
		"the first column's value":          is(api.ErrRange, 0, keep(gens, table(3, one, []int{1000001}, nil))),
		"the first column's length":         is(api.ErrMany, 0, keep(gens, table(3, one, nil, []int{1000001}))),
		"values ahead of the order":         is(api.ErrRange, 0, keep(gens, table(1, beings(being(1, 1), being(0, 1)), []int{5, 1000001}))),
		"beings fall":                       is(api.ErrForm, 1, keep([]int{1, 1, 1}, good, table(2, beings(being(2, 1), being(1, 1)), []int{5, 5}))),
		"a being twice":                     is(api.ErrForm, 0, keep(gens, table(0, beings(being(0, 1), being(0, 1))))),
		"the last two fall":                 is(api.ErrForm, 0, keep([]int{1, 1, 1}, table(0, beings(being(0, 1), being(2, 1), being(1, 1))))),
		"a number twice, of other gens":     is(api.ErrForm, 0, keep(gens, table(0, beings(being(0, 1), being(0, 2))))),
		"tables fall":                       is(api.ErrForm, 1, keep(gens, table(2, one, []int{5}), table(1, two, []int{5}))),
		"a table twice":                     is(api.ErrForm, 1, keep(gens, good, table(1, two, []int{5}))),
		"the third table falls":             is(api.ErrForm, 2, keep([]int{1, 1, 1}, good, table(2, two, []int{5}), table(0, beings(being(2, 1))))),
		"values ahead of the tables' order": is(api.ErrRange, 1, keep(gens, table(2, one, []int{5}), table(1, two, []int{1000001}))),
		"the first table is told":           is(api.ErrForm, 0, keep(gens, table(0, beings(being(1, 1), being(0, 1))), table(256, nil))),
		"tables ahead of gens":              is(api.ErrMany, 1, keep([]int{0}, good, table(2, nil, nil))),
		"a gen too many":                    is(api.ErrMany, 0, keep(slices.Repeat([]int{1}, 61), good)),
		"gen 0":                             is(api.ErrRange, 0, keep([]int{1, 0}, good)),
		"gen 1001":                          is(api.ErrRange, 0, keep([]int{1, 1, 1001})),
		"a gen ahead of a being":            is(api.ErrRange, 0, keep([]int{1, 0}, table(1, beings(being(0, 2)), []int{5}))),
		"a being behind all gens":           is(api.ErrRange, 0, keep(gens, good, table(2, beings(being(2, 1)), []int{5}))),
		"a being below 0":                   is(api.ErrRange, 0, keep(gens, table(0, beings(being(-1, 1))))),
		"beings, and no gens":               is(api.ErrRange, 0, keep(nil, good)),
		"a number in two tables":            is(api.ErrForm, 0, keep(gens, good, table(2, one, []int{5}))),
		"a gen that is not that of gens":    is(api.ErrFit, 0, keep([]int{1, 2}, good, table(2, two, []int{5}))),
		"in two tables, the first's gen":    is(api.ErrFit, 0, keep(gens, table(0, beings(being(0, 2))), table(1, one, []int{5}))),
		"in two tables, the second's gen":   is(api.ErrForm, 0, keep(gens, table(0, one), table(1, beings(being(0, 2)), []int{5}))),
		"the lower number is told":          is(api.ErrFit, 0, keep(gens, table(0, beings(being(5, 1))), table(1, beings(being(0, 2)), []int{5}))),
		"below 0 is told ahead of gens":     is(api.ErrRange, 0, keep(gens, table(0, beings(being(0, 2))), table(1, beings(being(-1, 1)), []int{5}))),
		"far apart, the lowest is told":     is(api.ErrRange, 0, keep(gens, table(0, beings(being(0, 2), being(math.MaxInt, 1))), table(1, beings(being(-5, 1)), []int{5}))),
		"the outermost numbers":             is(api.ErrRange, 0, keep(gens, table(0, beings(being(math.MinInt, 1), being(math.MaxInt, 1))))),
	}
}

func TestWrongTellsEachFault(t *testing.T) {
	for name, c := range faulty() {
		if got := store.Wrong(c.s); got != c.want {
			t.Errorf("%s: %v, not %v", name, got, c.want)
		}
	}
}

// TestOneNumberInManyTables: the first table's row of it is told first, among
// however many.
func TestOneNumberInManyTables(t *testing.T) {
	many := func(first, others int) api.Store {
		s := keep([]int{1, 1, 1})
		gen := first
		for has := range 64 {
			who := beings(being(0, gen), being(1, gen), being(2, gen))
			s.Tables = append(s.Tables, table(has, who, slices.Repeat([][]int{{1, 2, 3}}, bits.OnesCount(uint(has)))...))
			gen = others
		}
		return s
	}
	if got := store.Wrong(many(2, 1)); got != (api.Fault{Err: api.ErrFit}) {
		t.Errorf("the first one's gen is wrong: %v", got)
	}
	if got := store.Wrong(many(1, 2)); got != (api.Fault{Err: api.ErrForm}) {
		t.Errorf("the others' gens are wrong: %v", got)
	}
}

func TestNothingIsWrong(t *testing.T) {
	for name, s := range map[string]api.Store{
		"nothing":                {},
		"empty lists":            keep([]int{}, []api.Table{}...),
		"four beings":            four(),
		"gens alone":             keep([]int{1, 1000}),
		"as many as may be":      keep(slices.Repeat([]int{1}, 60)),
		"no parts":               keep([]int{1}, table(0, beings(being(0, 1)), [][]int{}...)),
		"the outermost values":   keep([]int{1, 1}, table(1, beings(being(0, 1), being(1, 1)), []int{1000000, -1000000})),
		"tables across another":  keep([]int{1, 1, 1}, table(0, beings(being(1, 1))), table(2, beings(being(0, 1), being(2, 1)), []int{0, 0})),
		"the last being's table": keep([]int{1, 1}, table(0, beings(being(1, 1))), table(1, beings(being(0, 1)), []int{3})),
	} {
		if got := store.Wrong(s); got != (api.Fault{}) {
			t.Errorf("%s: %v", name, got)
		}
	}
}

func TestOwnIsACopy(t *testing.T) {
	for _, s := range []api.Store{{}, four(), keep([]int{-1}, table(-5, nil, nil, []int{3, 4}), api.Table{}), keep(nil, table(1, beings(being(9, 9))))} {
		if got := store.Own(s); told(got) != told(s) {
			t.Errorf("%v is copied as %v", s, got)
		}
	}
	for name, c := range faulty() {
		if got := store.Own(c.s); told(got) != told(c.s) {
			t.Errorf("%s: %v is copied as %v", name, c.s, got)
		}
	}
}

func TestWorldAndOfTellTheSame(t *testing.T) {
	if got := store.World(four()); told(got) != told(fourRows()) {
		t.Errorf("the world is %v", got)
	}
	if got, fault := store.Of(fourRows()); told(got) != told(four()) || fault != (api.Fault{}) {
		t.Errorf("the store is %v %v", got, fault)
	}
	for _, w := range []api.World{{}, {Gens: []int{3, 4}}} {
		got, fault := store.Of(w)
		if told(got) != told(keep(w.Gens)) || fault != (api.Fault{}) {
			t.Errorf("the store of %v is %v %v", w, got, fault)
		}
		if back := store.World(got); told(back) != told(w) {
			t.Errorf("%v comes back as %v", w, back)
		}
	}
}

func TestATableOfEachSet(t *testing.T) {
	for has := 0; has <= api.Every; has++ {
		r := row(0, 1, has)
		var columns [][]int
		for part := range api.Kinds {
			if has>>part%2 == 1 {
				r.Vals[part] = 10 + part
				columns = append(columns, []int{10 + part})
			}
		}
		w := api.World{Rows: []api.Row{r}, Gens: []int{1}}
		want := keep([]int{1}, table(has, beings(being(0, 1)), columns...))
		if got, fault := store.Of(w); told(got) != told(want) || fault != (api.Fault{}) {
			t.Errorf("%d: %v %v, not %v", has, got, fault, want)
		}
		if got := store.World(want); told(got) != told(w) {
			t.Errorf("%d: %v, not %v", has, got, w)
		}
	}
}

func TestOfTellsWhatIsWrongWithTheWorld(t *testing.T) {
	for _, c := range []struct {
		w    api.World
		want api.Fault
	}{
		{api.World{Gens: slices.Repeat([]int{1}, 61)}, api.Fault{Err: api.ErrMany}},
		{api.World{Gens: []int{1, 1, 0}}, api.Fault{Err: api.ErrRange, At: 2}},
		{api.World{Gens: []int{1, 1}, Rows: []api.Row{row(0, 1, 1), row(1, 1, 256)}}, api.Fault{Err: api.ErrRange, At: 1}},
		{api.World{Gens: []int{1, 1}, Rows: []api.Row{row(0, 1, 1), row(1, 1, 1, 0, 5)}}, api.Fault{Err: api.ErrRange, At: 1}},
		{api.World{Gens: []int{1, 1}, Rows: []api.Row{row(1, 1, 1), row(0, 1, 1)}}, api.Fault{Err: api.ErrForm, At: 1}},
		{api.World{Gens: []int{1, 2}, Rows: []api.Row{row(0, 1, 1), row(1, 1, 1)}}, api.Fault{Err: api.ErrFit, At: 1}},
	} {
		if got, fault := store.Of(c.w); told(got) != noStore || fault != c.want {
			t.Errorf("%v: %v %v, not %v", c.w, got, fault, c.want)
		}
	}
}

func TestABeingThatGetsAPartStandsInAnotherTable(t *testing.T) {
	s, b, err := store.Spawn(api.Store{}, 5, 7)
	if told(s, b, err) != told(keep([]int{1}, table(5, beings(being(0, 1)), []int{7}, []int{7})), being(0, 1), api.OK) {
		t.Fatalf("Spawn: %v %v %v", s, b, err)
	}
	s, err = store.Put(s, b, 1, 9)
	if told(s, err) != told(keep([]int{1}, table(7, beings(b), []int{7}, []int{9}, []int{7})), api.OK) {
		t.Fatalf("Put: %v %v", s, err)
	}
	s, err = store.Drop(s, b, 0)
	if told(s, err) != told(keep([]int{1}, table(6, beings(b), []int{9}, []int{7})), api.OK) {
		t.Fatalf("Drop: %v %v", s, err)
	}
	s, err = store.Kill(s, b)
	if told(s, err) != told(keep([]int{1}), api.OK) {
		t.Fatalf("Kill: %v %v", s, err)
	}
	s, b, err = store.Spawn(s, 0, 7)
	if told(s, b, err) != told(keep([]int{2}, table(0, beings(being(0, 2)))), being(0, 2), api.OK) {
		t.Fatalf("Spawn: %v %v %v", s, b, err)
	}
}

func TestBeingsMoveBetweenTables(t *testing.T) {
	got, b, err := store.Spawn(four(), 5, 9)
	want := four()
	want.Gens[1] = 8
	want.Tables[1] = table(5, beings(being(0, 1), being(1, 8), being(4, 2)), []int{7, 9, 1}, []int{-7, 9, 0})
	if told(got, b, err) != told(want, being(1, 8), api.OK) {
		t.Errorf("a being comes between two: %v %v %v", got, b, err)
	}
	got, err = store.Kill(four(), being(0, 1))
	want = four()
	want.Tables[1] = table(5, beings(being(4, 2)), []int{1}, []int{0})
	if told(got, err) != told(want, api.OK) {
		t.Errorf("the first of two goes: %v %v", got, err)
	}
	got, err = store.Kill(four(), being(2, 3))
	want = four()
	want.Tables = want.Tables[1:]
	if told(got, err) != told(want, api.OK) {
		t.Errorf("a table goes with its last being: %v %v", got, err)
	}
	got, err = store.Put(four(), being(4, 2), 2, 3)
	want = four()
	want.Tables[1].Columns[1][1] = 3
	if told(got, err) != told(want, api.OK) {
		t.Errorf("a part that it has: %v %v", got, err)
	}
	got, err = store.Drop(four(), being(0, 1), 2)
	want = keep(four().Gens, four().Tables[0], table(1, beings(being(0, 1)), []int{7}),
		table(5, beings(being(4, 2)), []int{1}, []int{0}), four().Tables[2])
	if told(got, err) != told(want, api.OK) {
		t.Errorf("a table comes between two: %v %v", got, err)
	}
}

func TestWhatIsRefused(t *testing.T) {
	full := keep(slices.Repeat([]int{1000}, 60))
	for _, c := range []struct {
		s      api.Store
		has, n int
		want   api.Errno
	}{
		{four(), 256, 0, api.ErrRange}, {four(), -1, 0, api.ErrRange}, {four(), 0, 1000001, api.ErrRange},
		{four(), 0, -1000001, api.ErrRange}, {full, 0, 0, api.ErrMany}, {full, 256, 0, api.ErrRange},
	} {
		if got, b, err := store.Spawn(c.s, c.has, c.n); told(got, b, err) != told(api.Store{}, api.Being{}, c.want) {
			t.Errorf("Spawn %d %d: %v %v %v", c.has, c.n, got, b, err)
		}
	}
	for _, b := range beings(being(0, 2), being(1, 7), being(1, 8), being(5, 1), being(-1, 1), being(math.MaxInt, 0)) {
		x, err := store.Kill(four(), b)
		y, err2 := store.Put(four(), b, 8, 1000001)
		z, err3 := store.Drop(four(), b, 0)
		if told(x, err, y, err2, z, err3) != told(api.Store{}, api.ErrNone, api.Store{}, api.ErrNone, api.Store{}, api.ErrNone) {
			t.Errorf("%v is not there: %v %v, %v %v, %v %v", b, x, err, y, err2, z, err3)
		}
	}
	for _, c := range [][2]int{{8, 0}, {-1, 0}, {math.MaxInt, 0}, {0, 1000001}, {0, -1000001}} {
		if got, err := store.Put(four(), being(0, 1), c[0], c[1]); told(got, err) != told(api.Store{}, api.ErrRange) {
			t.Errorf("Put %v: %v %v", c, got, err)
		}
	}
	for _, part := range []int{1, 3, 7, 8, -1, math.MinInt} {
		if got, err := store.Drop(four(), being(0, 1), part); told(got, err) != told(api.Store{}, api.ErrNone) {
			t.Errorf("Drop %d: %v %v", part, got, err)
		}
	}
}

func TestWhatIsWrongIsToldFirst(t *testing.T) {
	for name, c := range faulty() {
		want := told(api.Store{}, c.want.Err)
		for _, b := range beings(being(0, 1), being(9, 9)) {
			x, err := store.Kill(c.s, b)
			y, err2 := store.Put(c.s, b, 8, 0)
			z, err3 := store.Drop(c.s, b, 5)
			if told(x, err) != want || told(y, err2) != want || told(z, err3) != want {
				t.Errorf("%s: %v %v, %v %v, %v %v, not %v", name, x, err, y, err2, z, err3, want)
			}
		}
		for _, has := range []int{0, 256} {
			x, b, err := store.Spawn(c.s, has, 0)
			if told(x, err) != want || b != (api.Being{}) {
				t.Errorf("%s: %v %v %v, not %v", name, x, b, err, want)
			}
		}
	}
}

func TestGetTellsEachPart(t *testing.T) {
	for _, r := range fourRows().Rows {
		for part := -1; part <= api.Kinds; part++ {
			want, has := 0, part >= 0 && part < api.Kinds && r.Has>>part%2 == 1
			if has {
				want = r.Vals[part]
			}
			if n, ok := store.Get(four(), r.Being, part); n != want || ok != has {
				t.Errorf("%d of %v is %d %v", part, r.Being, n, ok)
			}
		}
	}
	for _, b := range beings(being(0, 2), being(1, 7), being(5, 1), being(-1, 1), being(math.MinInt, math.MaxInt)) {
		if n, ok := store.Get(four(), b, 0); n != 0 || ok {
			t.Errorf("%v, who is not there, has %d %v", b, n, ok)
		}
	}
}

func TestMatchTellsWhoMeets(t *testing.T) {
	a, b, c, d := being(0, 1), being(2, 3), being(3, 1000), being(4, 2)
	for _, x := range []struct {
		f    api.Filter
		want []api.Being
	}{
		{api.Filter{}, beings(a, b, c, d)},
		{api.Filter{All: 1}, beings(a, c, d)},
		{api.Filter{All: 5}, beings(a, c, d)},
		{api.Filter{All: 7}, beings(c)},
		{api.Filter{None: 2}, beings(a, b, d)},
		{api.Filter{None: 255}, beings(b)},
		{api.Filter{All: 4, None: 128}, beings(a, d)},
		{api.Filter{All: 1, None: 1}, nil},
	} {
		if got := store.Match(four(), x.f); !slices.Equal(got, x.want) {
			t.Errorf("%v: %v, not %v", x.f, got, x.want)
		}
	}
	if got := store.Match(api.Store{}, api.Filter{}); len(got) != 0 {
		t.Errorf("of nothing: %v", got)
	}
}

func TestNilIsAsEmpty(t *testing.T) {
	none := keep([]int{}, []api.Table{}...)
	if told(store.Own(none), store.World(none)) != told(api.Store{}, api.World{}) {
		t.Error("an empty store has something")
	}
	partless := api.Table{Beings: beings(being(0, 1))}
	for _, columns := range [][][]int{nil, {}} {
		partless.Columns = columns
		s, err := store.Put(keep([]int{1}, partless), being(0, 1), 0, 4)
		if told(s, err) != told(keep([]int{1}, table(1, beings(being(0, 1)), []int{4})), api.OK) {
			t.Errorf("%v %v", s, err)
		}
	}
}

func TestAWrongStoreTellsNothing(t *testing.T) {
	for name, c := range faulty() {
		w := store.World(c.s)
		n, ok := store.Get(c.s, being(0, 1), 0)
		if told(w) != noWorld || n != 0 || ok || len(store.Match(c.s, api.Filter{})) != 0 {
			t.Errorf("%s: %v %d %v", name, w, n, ok)
		}
	}
}

func TestTheRightStoreOfARightWorldIsRight(t *testing.T) {
	for _, w := range []api.World{{}, fourRows()} {
		s, _ := store.Of(w)
		if store.Wrong(s) != (api.Fault{}) || plain.Wrong(store.World(s)) != (api.Fault{}) {
			t.Errorf("%v: %v", w, store.Wrong(s))
		}
	}
}
