package house_test

import (
	"fmt"
	"slices"
	"testing"

	"broodhouse/api"
	"broodhouse/house"
)

// list is one piece of memory: how all of it reads, its spare room too, and a
// way to write over all of it.
type list struct {
	name  string
	tell  func() string
	spoil func()
}

func listOf[T any](name string, l []T, bad T, tell func(T) string) list {
	l = l[:cap(l)]
	return list{name, func() string {
		out := ""
		for _, x := range l {
			out += tell(x) + " "
		}
		return out
	}, func() {
		for i := range l {
			l[i] = bad
		}
	}}
}

func plainly[T any](x T) string { return fmt.Sprint(x) }

// shallow tells of a table what stands in it, and of its lists how long they are.
func shallow(t api.Table) string { return fmt.Sprint(t.Has, len(t.Beings), len(t.Columns)) }

func length(column []int) string { return fmt.Sprint(len(column)) }

func head(x api.System) string { return fmt.Sprint(x.Mod, x.Filter, len(x.Acts)) }

func headOfDo(d api.Do) string {
	return fmt.Sprint(d.Kind, d.Has, d.Part, d.N, d.Being, head(d.System), d.Filter)
}

func headOfAnswer(a api.Answer) string { return fmt.Sprint(a.Err, a.Being, len(a.Beings), a.N) }

func listsOfGiven(mods []api.Mod, l []api.Do) []list {
	out := []list{
		listOf("given mods", mods, api.Mod{Reads: 77}, plainly),
		listOf("given things", l, api.Do{Kind: 77}, headOfDo),
	}
	for at, d := range l {
		out = append(out, listOf(fmt.Sprint("given acts ", at), d.System.Acts, api.Act{Kind: 77}, plainly))
	}
	return out
}

func listsOfStore(s api.Store) []list {
	out := []list{
		listOf("gens", s.Gens, 77, plainly),
		listOf("tables", s.Tables, api.Table{Has: 77}, shallow),
	}
	for _, t := range s.Tables {
		what := fmt.Sprint("table ", t.Has)
		out = append(out,
			listOf(what+" beings", t.Beings, being(77, 77), plainly),
			listOf(what+" columns", t.Columns, []int{7, 7, 7, 7, 7}, length))
		for k, column := range t.Columns {
			out = append(out, listOf(fmt.Sprint(what, " column ", k), column, 77, plainly))
		}
	}
	return out
}

func listsOfAnswered(h api.House, came []api.Answer) []list {
	out := append(listsOfStore(h.Store),
		listOf("mods", h.Mods, api.Mod{Reads: 66}, plainly),
		listOf("systems", h.Systems, api.System{Mod: 66}, head),
		listOf("answers", came, api.Answer{N: 66}, headOfAnswer))
	for at, x := range h.Systems {
		out = append(out, listOf(fmt.Sprint("acts ", at), x.Acts, api.Act{Kind: 66}, plainly))
	}
	for at, a := range came {
		out = append(out, listOf(fmt.Sprint("beings ", at), a.Beings, being(66, 66), plainly))
	}
	return out
}

func tellAll(all []list) []string {
	var out []string
	for _, l := range all {
		out = append(out, l.tell())
	}
	return out
}

// noneShares writes over list after list: no other one may show it.
func noneShares(t *testing.T, what string, all []list) {
	t.Helper()
	for at, l := range all {
		before := tellAll(all)
		l.spoil()
		for k, now := range tellAll(all) {
			if k != at && now != before[k] {
				t.Errorf("%s: what is written to %s shows in %s", what, l.name, all[k].name)
			}
		}
	}
}

// roomy is l with spare room behind it, and marks there.
func roomy[T any](l []T, mark T) []T {
	return append(slices.Clone(l), mark, mark, mark)[:len(l)]
}

func roomyThings(l []api.Do) []api.Do {
	out := roomy(l, doSpawn(1, 1))
	for at, d := range out {
		out[at].System.Acts = roomy(d.System.Acts, kill())
	}
	return out
}

func TestWhatIsHandedInIsOnlyReadAndNotKept(t *testing.T) {
	grow, age := system(0, 1, 0, spawn(2, 1)), system(1, 1, 0, more(0, 1), put(3, 1))
	for name, l := range map[string][]api.Do{
		"nothing":  nil,
		"a being":  {doSpawn(3, 1)},
		"beings":   {doSpawn(3, 1), doSpawn(3, 2), doSpawn(0, 0), doPut(0, 1, 4, 1), doDrop(1, 1, 0), doKill(2, 1)},
		"systems":  {doSystem(grow), doSystem(age), doSystem(system(0, 0, 0)), doSystem(api.System{})},
		"asked":    {doSpawn(1, 1), doSpawn(1, 2), doSpawn(2, 1), doAsk(0, 0, 0), doAsk(0, 0, 0), doAsk(1, 0, 0), doAsk(4, 0, 0)},
		"ticks":    {doSpawn(1, 1), doSystem(grow), doSystem(age), doTick(), doAsk(0, 0, 0), doTick(), doAsk(0, 0, 3)},
		"no ticks": {doSpawn(1, 1), doTick(), doTick()},
		"refused":  {doSpawn(256, 1), doSystem(system(2, 0, 0, kill())), doSystem(system(3, 0, 0, kill())), doSystem(system(0, 0, 0, api.Act{})), doAsk(256, 0, 0), bare(0)},
		"no room":  append(slices.Repeat(do(doSpawn(1, 1)), 31), doSystem(grow), doTick(), doAsk(0, 0, 0), doTick(), doAsk(1, 0, 0)),
		"too many": slices.Repeat(do(doSpawn(1, 1)), 81),
	} {
		mods := []api.Mod{all, all, {}}
		givenMods, given := roomy(mods, api.Mod{Reads: -9}), roomyThings(l)
		lists := listsOfGiven(givenMods, given)
		before := tellAll(lists)
		house.Wrong(givenMods)
		h, came, f := house.Play(givenMods, given)
		if !slices.Equal(tellAll(lists), before) {
			t.Errorf("%s: what was given is changed", name)
		}
		wantHouse, want, wantFault := house.Play(mods, l)
		if told(h, came, f) != told(wantHouse, want, wantFault) {
			t.Errorf("%s: %v %v %v, not %v %v %v: spare room was looked at", name, h, came, f, wantHouse, want, wantFault)
		}
		noneShares(t, name, append(lists, listsOfAnswered(h, came)...))
	}
}

// TestWhatIsHandedInTwiceIsAnsweredApart: two systems come of one list of
// acts, and the house has each of them in memory of its own.
func TestWhatIsHandedInTwiceIsAnsweredApart(t *testing.T) {
	acts := roomy([]api.Act{more(0, 1), more(0, 2)}, kill())
	d, e := doSystem(system(0, 1, 0, acts...)), doSystem(system(0, 1, 0))
	d.System.Acts = acts
	e.System.Acts = acts[:1]
	mods := []api.Mod{all}
	given := do(d, d, e)
	h, came := played(t, mods, given)
	if got := fmt.Sprint(len(h.Systems[0].Acts), len(h.Systems[1].Acts), len(h.Systems[2].Acts)); got != "2 2 1" {
		t.Error(got)
	}
	lists := []list{listOf("given acts", acts, api.Act{Kind: 77}, plainly), listOf("given mods", mods, api.Mod{Writes: 77}, plainly)}
	noneShares(t, "acts", append(lists, listsOfAnswered(h, came)...))
}

// TestNilIsAsEmpty hands in nothing in both ways.
func TestNilIsAsEmpty(t *testing.T) {
	for _, mods := range [][]api.Mod{nil, {}} {
		if f := house.Wrong(mods); f != (api.Fault{}) {
			t.Error(f)
		}
		for _, l := range [][]api.Do{nil, {}} {
			h, came, f := house.Play(mods, l)
			if f != (api.Fault{}) || told(h) != noHouse || len(came) != 0 {
				t.Errorf("%v %v %v", h, came, f)
			}
		}
	}
	for _, acts := range [][]api.Act{nil, {}} {
		h, came := played(t, []api.Mod{{}}, do(doSystem(api.System{Acts: acts}), doTick()))
		if len(h.Systems) != 1 || len(h.Systems[0].Acts) != 0 || told(came) != told([]api.Answer{many(1), many(1)}) {
			t.Errorf("%v %v", h, came)
		}
	}
}

// TestOneCallIsNoMatterToTheNext plays one list twice, and another one between.
func TestOneCallIsNoMatterToTheNext(t *testing.T) {
	l := do(doSpawn(1, 1), doSystem(system(0, 1, 0, more(0, 1))), doTick(), doAsk(0, 0, 0))
	h, came := played(t, []api.Mod{all}, l)
	first := told(h, came)
	played(t, []api.Mod{all, all}, append(do(doSpawn(9, 9), doSystem(system(1, 0, 0, kill()))), l...))
	h, came = played(t, []api.Mod{all}, l)
	if told(h, came) != first {
		t.Errorf("%v %v, and %s at first", h, came, first)
	}
}
