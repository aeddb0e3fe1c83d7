package batch_test

import (
	"fmt"
	"slices"
	"testing"

	"broodhouse/api"
	"broodhouse/batch"
)

// list is one piece of memory: how all of it reads, its spare room too, and a
// way to write over all of it.
type list struct {
	name  string
	tell  func() string
	spoil func()
}

func listOf[T any](name string, l []T, bad T, tell func(T) string) list {
	l = l[:cap(l)]
	return list{name, func() string {
		out := ""
		for _, x := range l {
			out += tell(x) + " "
		}
		return out
	}, func() {
		for i := range l {
			l[i] = bad
		}
	}}
}

func plainly[T any](x T) string { return fmt.Sprint(x) }

func length(l []int) string { return fmt.Sprint(len(l)) }

func head(x api.System) string { return fmt.Sprint(x.Mod, x.Filter, len(x.Acts)) }

func listsOfSystems(l []api.System) []list {
	out := []list{listOf("systems", l, api.System{Mod: 77}, head)}
	for at, x := range l {
		out = append(out, listOf(fmt.Sprint("acts ", at), x.Acts, api.Act{Kind: 77}, plainly))
	}
	return out
}

func listsOfBatches(l [][]int) []list {
	out := []list{listOf("batches", l, []int{7, 7, 7, 7, 7}, length)}
	for at, b := range l {
		out = append(out, listOf(fmt.Sprint("batch ", at), b, 77, plainly))
	}
	return out
}

func tellAll(all []list) []string {
	var out []string
	for _, l := range all {
		out = append(out, l.tell())
	}
	return out
}

// noneShares writes over list after list: no other one may show it.
func noneShares(t *testing.T, what string, all []list) {
	t.Helper()
	for at, l := range all {
		before := tellAll(all)
		l.spoil()
		for k, now := range tellAll(all) {
			if k != at && now != before[k] {
				t.Errorf("%s: what is written to %s shows in %s", what, l.name, all[k].name)
			}
		}
	}
}

// roomy is l with spare room behind it, and marks there.
func roomy[T any](l []T, mark T) []T {
	return append(slices.Clone(l), mark, mark, mark)[:len(l)]
}

func roomySystems(l []api.System) []api.System {
	out := roomy(l, system(0, 0, api.Act{}))
	for at, x := range out {
		out[at].Acts = roomy(x.Acts, api.Act{})
	}
	return out
}

func TestSystemsAreOnlyRead(t *testing.T) {
	for name, l := range map[string][]api.System{
		"none":         nil,
		"one":          {on(0)},
		"together":     {on(0), on(1), on(2), on(3), on(4)},
		"one by one":   {on(0), on(0), on(0), on(0)},
		"both":         {on(0), on(1), on(0), on(1), on(0), look()},
		"all there is": slices.Repeat([]api.System{on(0), on(1), look()}, 4),
		"wrong":        {on(0), {Mod: 6}},
		"too many":     make([]api.System, 13),
	} {
		given := roomySystems(l)
		lists := listsOfSystems(given)
		before := tellAll(lists)
		wrong := batch.Wrong(given)
		got, f := batch.Make(given)
		if !slices.Equal(tellAll(lists), before) {
			t.Errorf("%s: what was given is changed", name)
		}
		want, wantFault := batch.Make(l)
		if f != wantFault || wrong != wantFault || told(got) != told(want) {
			t.Errorf("%s: %v %v %v, not %v %v: spare room was looked at", name, got, f, wrong, want, wantFault)
		}
		noneShares(t, name, append(lists, listsOfBatches(got)...))
	}
}

func TestBatchesAreOnlyRead(t *testing.T) {
	for _, l := range [][][]int{nil, {{}}, {{1}}, {{1, 2, 3}}, {{1}, {}, {2, 3}}, {{}, {4, 5}}, {{4, 5}, {}}} {
		given := roomy(l, []int{-9})
		for at, b := range given {
			given[at] = roomy(b, -9)
		}
		lists := listsOfBatches(given)
		before := tellAll(lists)
		got := batch.Order(given)
		if !slices.Equal(tellAll(lists), before) {
			t.Errorf("%v: what was given is changed", l)
		}
		if want := batch.Order(l); told(got) != told(want) {
			t.Errorf("%v: %v, not %v: spare room was looked at", l, got, want)
		}
		noneShares(t, fmt.Sprint(l), append(lists, listOf("order", got, 55, plainly)))
	}
}

// TestNilIsAsEmpty hands in nothing in both ways.
func TestNilIsAsEmpty(t *testing.T) {
	for _, l := range [][]api.System{nil, {}} {
		got, f := batch.Make(l)
		if f != batch.Wrong(l) || f != (api.Fault{}) || len(got) > 0 {
			t.Errorf("%v: %v %v", l, got, f)
		}
	}
	for _, l := range [][]api.System{{{}, on(0)}, {{Acts: []api.Act{}}, on(0)}} {
		if got, f := batch.Make(l); f != (api.Fault{}) || told(got) != "[[0 1]]" {
			t.Errorf("%v: %v %v", l, got, f)
		}
	}
}
