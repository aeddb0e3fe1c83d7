package store_test

import (
	"fmt"
	"slices"
	"testing"

	"broodhouse/api"
	"broodhouse/store"
)

// list is one piece of memory: how all of it reads, its spare room too, and a
// way to write over all of it.
type list struct {
	name  string
	tell  func() string
	spoil func()
}

func listOf[T any](name string, l []T, bad T, tell func(T) string) list {
	l = l[:cap(l)]
	return list{name, func() string {
		out := ""
		for _, x := range l {
			out += tell(x) + " "
		}
		return out
	}, func() {
		for i := range l {
			l[i] = bad
		}
	}}
}

func plainly[T any](x T) string { return fmt.Sprint(x) }

// shallow tells of a table what stands in it, and of its lists how long they are.
func shallow(t api.Table) string { return fmt.Sprint(t.Has, len(t.Beings), len(t.Columns)) }

func length(column []int) string { return fmt.Sprint(len(column)) }

func listsOf(name string, s api.Store) []list {
	out := []list{
		listOf(name+" gens", s.Gens, 77, plainly),
		listOf(name+" tables", s.Tables, table(77, beings(being(7, 7)), nil, nil), shallow),
	}
	for _, t := range s.Tables {
		what := fmt.Sprint(name, " ", t.Has)
		out = append(out,
			listOf(what+" beings", t.Beings, being(77, 77), plainly),
			listOf(what+" columns", t.Columns, []int{7, 7, 7, 7, 7}, length))
		for k, column := range t.Columns {
			out = append(out, listOf(fmt.Sprint(what, " column ", k), column, 77, plainly))
		}
	}
	return out
}

func listsOfWorld(name string, w api.World) []list {
	return []list{
		listOf(name+" rows", w.Rows, row(77, 77, 77, 77), plainly),
		listOf(name+" gens", w.Gens, 77, plainly),
	}
}

func tellAll(all []list) []string {
	var out []string
	for _, l := range all {
		out = append(out, l.tell())
	}
	return out
}

// noneShares writes over list after list: no other one may show it.
func noneShares(t *testing.T, what string, all []list) {
	t.Helper()
	for at, l := range all {
		before := tellAll(all)
		l.spoil()
		for k, now := range tellAll(all) {
			if k != at && now != before[k] {
				t.Errorf("%s: what is written to %s shows in %s", what, l.name, all[k].name)
			}
		}
	}
}

// roomyList is l with spare room behind it, and marks there.
func roomyList[T any](l []T, mark T) []T {
	return append(slices.Clone(l), mark, mark, mark)[:len(l)]
}

// roomy is s with spare room behind each list.
func roomy(s api.Store) api.Store {
	tables := roomyList(s.Tables, table(-9, beings(being(-9, -9)), []int{-9}))
	for i, t := range tables {
		columns := roomyList(t.Columns, []int{-9})
		for k := range columns {
			columns[k] = roomyList(columns[k], -9)
		}
		tables[i] = api.Table{Has: t.Has, Beings: roomyList(t.Beings, being(-9, -9)), Columns: columns}
	}
	return api.Store{Tables: tables, Gens: roomyList(s.Gens, -9)}
}

func roomyWorld(w api.World) api.World {
	return api.World{Rows: roomyList(w.Rows, row(-9, -9, -9)), Gens: roomyList(w.Gens, -9)}
}

// calls are all calls that answer a store, each of them by what it answers of s.
func calls() map[string]func(s api.Store) api.Store {
	return map[string]func(s api.Store) api.Store{
		"Own":             store.Own,
		"Spawn":           func(s api.Store) api.Store { x, _, _ := store.Spawn(s, 9, 2); return x },
		"Spawn between":   func(s api.Store) api.Store { x, _, _ := store.Spawn(s, 5, 2); return x },
		"Kill":            func(s api.Store) api.Store { x, _ := store.Kill(s, being(0, 1)); return x },
		"Kill the last":   func(s api.Store) api.Store { x, _ := store.Kill(s, being(3, 1000)); return x },
		"Put":             func(s api.Store) api.Store { x, _ := store.Put(s, being(2, 3), 4, 1); return x },
		"Put what it has": func(s api.Store) api.Store { x, _ := store.Put(s, being(4, 2), 0, 1); return x },
		"Drop":            func(s api.Store) api.Store { x, _ := store.Drop(s, being(3, 1000), 7); return x },
	}
}

func TestWhatIsHandedInIsOnlyReadAndNotKept(t *testing.T) {
	for name, call := range calls() {
		in := roomy(four())
		lists := listsOf("given", in)
		before := tellAll(lists)
		got := call(in)
		if !slices.Equal(tellAll(lists), before) {
			t.Errorf("%s changes what it is given", name)
		}
		if told(got) != told(call(four())) {
			t.Errorf("%s looks at spare room: %v", name, got)
		}
		if len(got.Tables) == 0 {
			t.Errorf("%s is refused", name)
		}
		noneShares(t, name, append(lists, listsOf("answered", got)...))
	}
}

func TestWorldAndOfAnswerNewMemory(t *testing.T) {
	in := roomy(four())
	lists := listsOf("given", in)
	before := tellAll(lists)
	w := store.World(in)
	if !slices.Equal(tellAll(lists), before) || told(w) != told(fourRows()) {
		t.Errorf("World answers %v", w)
	}
	noneShares(t, "World", append(lists, listsOfWorld("answered", w)...))

	given := roomyWorld(fourRows())
	lists = listsOfWorld("given", given)
	before = tellAll(lists)
	s, _ := store.Of(given)
	if !slices.Equal(tellAll(lists), before) || told(s) != told(four()) {
		t.Errorf("Of answers %v", s)
	}
	noneShares(t, "Of", append(lists, listsOf("answered", s)...))
}

func TestMatchIsTheCallersOwn(t *testing.T) {
	in := roomy(four())
	lists := listsOf("given", in)
	before := tellAll(lists)
	first, second := store.Match(in, api.Filter{}), store.Match(in, api.Filter{})
	store.Get(in, being(0, 1), 0)
	store.Wrong(in)
	if !slices.Equal(tellAll(lists), before) {
		t.Error("Match, Get or Wrong changes what it is given")
	}
	noneShares(t, "Match", append(lists,
		listOf("the first answer", first, being(77, 77), plainly),
		listOf("the second answer", second, being(77, 77), plainly)))
}

func TestColumnsThatAreOneAreCopiedApart(t *testing.T) {
	gens := []int{1, 1}
	column := gens[:1:2]
	who := beings(being(0, 1), being(1, 1))
	s := keep(gens, table(0, who[1:]), table(3, who[:1], column, column))
	for name, call := range map[string]func(api.Store) api.Store{
		"Own": store.Own,
		"Put": func(s api.Store) api.Store { x, _ := store.Put(s, being(0, 1), 0, 1); return x },
	} {
		got := call(s)
		if told(got) != told(s) {
			t.Errorf("%s: %v", name, got)
		}
		noneShares(t, name, listsOf("answered", got))
	}
}

// TestATableThatIsTwiceTheSame: one list may stand in two tables; only their
// rows together tell that it must not.
func TestATableThatIsTwiceTheSame(t *testing.T) {
	who, column := beings(being(0, 1)), []int{4}
	s := keep([]int{1}, table(1, who, column), table(2, who, column))
	if got := store.Wrong(s); got != (api.Fault{Err: api.ErrForm}) {
		t.Errorf("%v", got)
	}
	noneShares(t, "Own", listsOf("answered", store.Own(s)))
}
