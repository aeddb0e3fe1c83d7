package run_test

import (
	"fmt"
	"slices"
	"testing"

	"broodhouse/api"
	"broodhouse/run"
)

// list is one piece of memory: how all of it reads, its spare room too, and a
// way to write over all of it.
type list struct {
	name  string
	tell  func() string
	spoil func()
}

func listOf[T any](name string, l []T, bad T, tell func(T) string) list {
	l = l[:cap(l)]
	return list{name, func() string {
		out := ""
		for _, x := range l {
			out += tell(x) + " "
		}
		return out
	}, func() {
		for i := range l {
			l[i] = bad
		}
	}}
}

func plainly[T any](x T) string { return fmt.Sprint(x) }

// shallow tells of a table what stands in it, and of its lists how long they are.
func shallow(t api.Table) string { return fmt.Sprint(t.Has, len(t.Beings), len(t.Columns)) }

func length(column []int) string { return fmt.Sprint(len(column)) }

func head(x api.System) string { return fmt.Sprint(x.Mod, x.Filter, len(x.Acts)) }

func listsOf(name string, s api.Store) []list {
	out := []list{
		listOf(name+" gens", s.Gens, 77, plainly),
		listOf(name+" tables", s.Tables, api.Table{Has: 77}, shallow),
	}
	for _, t := range s.Tables {
		what := fmt.Sprint(name, " ", t.Has)
		out = append(out,
			listOf(what+" beings", t.Beings, being(77, 77), plainly),
			listOf(what+" columns", t.Columns, []int{7, 7, 7, 7, 7}, length))
		for k, column := range t.Columns {
			out = append(out, listOf(fmt.Sprint(what, " column ", k), column, 77, plainly))
		}
	}
	return out
}

func listsOfSystems(l []api.System) []list {
	out := []list{listOf("given systems", l, api.System{Mod: 77}, head)}
	for at, x := range l {
		out = append(out, listOf(fmt.Sprint("given acts ", at), x.Acts, api.Act{Kind: 77}, plainly))
	}
	return out
}

func tellAll(all []list) []string {
	var out []string
	for _, l := range all {
		out = append(out, l.tell())
	}
	return out
}

// noneShares writes over list after list: no other one may show it.
func noneShares(t *testing.T, what string, all []list) {
	t.Helper()
	for at, l := range all {
		before := tellAll(all)
		l.spoil()
		for k, now := range tellAll(all) {
			if k != at && now != before[k] {
				t.Errorf("%s: what is written to %s shows in %s", what, l.name, all[k].name)
			}
		}
	}
}

// roomyList is l with spare room behind it, and marks there.
func roomyList[T any](l []T, mark T) []T {
	return append(slices.Clone(l), mark, mark, mark)[:len(l)]
}

// roomy is s with spare room behind each list.
func roomy(s api.Store) api.Store {
	tables := roomyList(s.Tables, api.Table{Has: -9})
	for i, t := range tables {
		columns := roomyList(t.Columns, []int{-9})
		for k := range columns {
			columns[k] = roomyList(columns[k], -9)
		}
		tables[i] = api.Table{Has: t.Has, Beings: roomyList(t.Beings, being(-9, -9)), Columns: columns}
	}
	return api.Store{Tables: tables, Gens: roomyList(s.Gens, -9)}
}

func roomySystems(l []api.System) []api.System {
	out := roomyList(l, system(0, 0, kill()))
	for at, x := range out {
		out[at].Acts = roomyList(x.Acts, kill())
	}
	return out
}

func TestWhatIsHandedInIsOnlyReadAndNotKept(t *testing.T) {
	for name, l := range map[string][]api.System{
		"none":    nil,
		"no acts": {system(0, 0)},
		"nobody":  {system(128, 0, kill())},
		"values":  {system(1, 0, more(0, 1)), system(3, 0, add(0, 1))},
		"moves":   {system(1, 0, put(4, 1)), system(2, 0, drop(1))},
		"lives":   {system(4, 0, spawn(3, 1), spawn(1, 2), kill()), system(1, 2, spawn(0, 0))},
		"refused": {system(0, 0, kill()), system(0, 0, api.Act{})},
		"no room": slices.Repeat([]api.System{system(0, 0, spawn(0, 0))}, 6),
	} {
		in, given := roomy(crowd(t)), roomySystems(l)
		lists := append(listsOf("given", in), listsOfSystems(given)...)
		before := tellAll(lists)
		got, fault := run.All(in, given)
		if !slices.Equal(tellAll(lists), before) {
			t.Errorf("%s: what was given is changed", name)
		}
		want, wantFault := run.All(crowd(t), l)
		if told(got, fault) != told(want, wantFault) {
			t.Errorf("%s: %v %v, not %v %v: spare room was looked at", name, got, fault, want, wantFault)
		}
		noneShares(t, name, append(lists, listsOf("answered", got)...))
	}
}

func TestRunAnswersNewMemory(t *testing.T) {
	for _, x := range []api.System{
		system(0, 0), system(128, 0, kill()), system(1, 0, more(0, 1)), system(1, 0, put(7, 1)),
		system(2, 0, kill()), system(2, 0, spawn(6, 1)), {Mod: -1},
	} {
		in, given := roomy(crowd(t)), roomySystems([]api.System{x})
		lists := append(listsOf("given", in), listsOfSystems(given)...)
		before := tellAll(lists)
		got, err := run.Run(in, given[0])
		if !slices.Equal(tellAll(lists), before) {
			t.Errorf("%v: what was given is changed", x)
		}
		want, wantErr := run.Run(crowd(t), x)
		if told(got, err) != told(want, wantErr) {
			t.Errorf("%v: %v %v, not %v %v: spare room was looked at", x, got, err, want, wantErr)
		}
		noneShares(t, fmt.Sprint(x), append(lists, listsOf("answered", got)...))
	}
}

// TestNilIsAsEmpty hands in nothing in both ways.
func TestNilIsAsEmpty(t *testing.T) {
	none := api.Store{Tables: []api.Table{}, Gens: []int{}}
	for _, in := range []api.Store{{}, none} {
		for _, l := range [][]api.System{nil, {}, {{}}, {{Acts: []api.Act{}}}} {
			got, fault := run.All(in, l)
			if fault != (api.Fault{}) || told(got) != noStore {
				t.Errorf("%v: %v %v", l, got, fault)
			}
		}
		if got, err := run.Run(in, system(0, 0, spawn(1, 1))); err != api.OK || told(got) != noStore {
			t.Errorf("%v %v comes of nobody", got, err)
		}
	}
	bare := api.Store{Gens: []int{1}, Tables: []api.Table{{Beings: []api.Being{being(0, 1)}, Columns: [][]int{}}}}
	if got, err := run.Run(bare, system(0, 0, put(0, 4))); err != api.OK || told(got) != told(keep(t, []int{1}, row(0, 1, 1, 4))) {
		t.Errorf("%v %v", got, err)
	}
}
