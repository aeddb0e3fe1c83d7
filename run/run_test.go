package run_test

import (
	"fmt"
	"math"
	"slices"
	"testing"

	"broodhouse/api"
	"broodhouse/run"
	"broodhouse/store"
)

// The fields that a kind has not stand at a number that is no part, no set and
// no value, so that whoever looks at them is found out.
const odd = math.MinInt

func put(part, n int) api.Act    { return api.Act{Kind: api.Put, Part: part, From: odd, N: n} }
func cp(part, from int) api.Act  { return api.Act{Kind: api.Copy, Part: part, From: from, N: odd} }
func add(part, from int) api.Act { return api.Act{Kind: api.Add, Part: part, From: from, N: odd} }
func more(part, n int) api.Act   { return api.Act{Kind: api.More, Part: part, From: odd, N: n} }
func drop(part int) api.Act      { return api.Act{Kind: api.Drop, Part: part, From: odd, N: odd} }
func kill() api.Act              { return api.Act{Kind: api.Kill, Part: odd, From: odd, N: odd} }
func spawn(set, n int) api.Act   { return api.Act{Kind: api.Spawn, Part: set, From: odd, N: n} }

func system(all, none int, acts ...api.Act) api.System {
	return api.System{Filter: api.Filter{All: all, None: none}, Acts: acts}
}

func being(index, gen int) api.Being { return api.Being{Index: index, Gen: gen} }

func row(index, gen, has int, vals ...int) api.Row {
	r := api.Row{Being: being(index, gen), Has: has}
	copy(r.Vals[:], vals)
	return r
}

// keep is the store of rows that are right.
func keep(t *testing.T, gens []int, rows ...api.Row) api.Store {
	t.Helper()
	s, fault := store.Of(api.World{Rows: rows, Gens: gens})
	if fault.Err != api.OK {
		t.Fatalf("%v is wrong: %v", rows, fault)
	}
	return s
}

// full is a store of as many beings as may be, all of part 0.
func full(t *testing.T) api.Store {
	t.Helper()
	var rows []api.Row
	for index := range api.MaxBeing {
		rows = append(rows, row(index, 1, 1, index))
	}
	return keep(t, slices.Repeat([]int{1}, api.MaxBeing), rows...)
}

// told is how a value reads: nil and empty lists read alike.
func told(l ...any) string { return fmt.Sprint(l...) }

const noStore = "{[] []}"

const most = api.MaxValue

// TestWhatBecomesOfOne runs a system on one being of number 0, of parts 0, 1
// and 3, that are 7, -5 and 0.
func TestWhatBecomesOfOne(t *testing.T) {
	for _, c := range []struct {
		name string
		x    api.System
		want api.Row
	}{
		{"no acts", system(0, 0), row(0, 1, 11, 7, -5, 0, 0)},
		{"Put what it has", system(0, 0, put(0, 9)), row(0, 1, 11, 9, -5)},
		{"Put what it has not", system(0, 0, put(2, 9)), row(0, 1, 15, 7, -5, 9)},
		{"Put the greatest", system(0, 0, put(7, most)), row(0, 1, 139, 7, -5, 0, 0, 0, 0, 0, most)},
		{"Put the least", system(0, 0, put(0, -most)), row(0, 1, 11, -most, -5)},
		{"Put 0", system(0, 0, put(4, 0)), row(0, 1, 27, 7, -5)},
		{"Copy to what it has", system(2, 0, cp(0, 1)), row(0, 1, 11, -5, -5)},
		{"Copy to what it has not", system(1, 0, cp(6, 0)), row(0, 1, 75, 7, -5, 0, 0, 0, 0, 7)},
		{"Copy a part to itself", system(1, 0, cp(0, 0)), row(0, 1, 11, 7, -5)},
		{"Copy a 0", system(8, 0, cp(0, 3)), row(0, 1, 11, 0, -5)},
		{"Add", system(3, 0, add(0, 1)), row(0, 1, 11, 2, -5)},
		{"Add the other way", system(3, 0, add(1, 0)), row(0, 1, 11, 7, 2)},
		{"7 and 7 are 14", system(1, 0, add(0, 0)), row(0, 1, 11, 14, -5)},
		{"More", system(1, 0, more(0, 3)), row(0, 1, 11, 10, -5)},
		{"less", system(2, 0, more(1, -3)), row(0, 1, 11, 7, -8)},
		{"More to the edge", system(1, 0, more(0, most-7)), row(0, 1, 11, most, -5)},
		{"More than the edge", system(1, 0, more(0, most)), row(0, 1, 11, most, -5)},
		{"less than the edge", system(2, 0, more(1, -most)), row(0, 1, 11, 7, -most)},
		{"Add beyond the edge", system(3, 0, put(1, most), add(0, 1)), row(0, 1, 11, most, most)},
		{"Add below the edge", system(3, 0, put(0, -most), add(1, 0)), row(0, 1, 11, -most, -most)},
		{"each time Clip", system(1, 0, more(0, most), more(0, -1)), row(0, 1, 11, most-1, -5)},
		{"each time Clip, below", system(2, 0, more(1, -most), more(1, -most), more(1, 1)), row(0, 1, 11, 7, 1-most)},
		{"Drop what it has", system(0, 0, drop(0)), row(0, 1, 10, 0, -5)},
		{"Drop what it has not", system(0, 0, drop(7)), row(0, 1, 11, 7, -5)},
		{"Drop twice", system(0, 0, drop(1), drop(1)), row(0, 1, 9, 7)},
		{"Drop all", system(0, 0, drop(0), drop(1), drop(3)), row(0, 1, 0)},
		{"Drop, and Put", system(1, 0, drop(0), put(0, 3), more(0, 1)), row(0, 1, 11, 4, -5)},
		{"Drop, and Copy", system(3, 0, drop(0), cp(0, 1), add(0, 1)), row(0, 1, 11, -10, -5)},
		{"Put, and Drop", system(0, 0, put(5, 3), drop(5)), row(0, 1, 11, 7, -5)},
		{"acts in turn", system(3, 0, add(0, 1), cp(1, 0), more(0, 1), add(1, 0)), row(0, 1, 11, 3, 5)},
		{"no more of the filter, and still acts", system(1, 4, put(2, 1), drop(0), put(1, 8)), row(0, 1, 14, 0, 8, 1)},
		{"a None that it has not", system(11, 4, put(0, 1)), row(0, 1, 11, 1, -5)},
		{"a None that it has", system(1, 2, put(0, 1)), row(0, 1, 11, 7, -5)},
		{"an All that it has not", system(5, 0, put(0, 1)), row(0, 1, 11, 7, -5)},
		{"an All that is None", system(1, 1, put(0, 1)), row(0, 1, 11, 7, -5)},
		{"the last mod", api.System{Mod: 5, Acts: []api.Act{put(0, 1)}}, row(0, 1, 11, 1, -5)},
	} {
		in := keep(t, []int{1}, row(0, 1, 11, 7, -5))
		got, err := run.Run(in, c.x)
		if want := keep(t, []int{1}, c.want); err != api.OK || told(got) != told(want) {
			t.Errorf("%s: %v %v, not %v", c.name, got, err, want)
		}
	}
}

// crowd is a store of beings 0, 2, 3 and 5, in three tables; 1 and 4 are free,
// and 4 is used up.
func crowd(t *testing.T) api.Store {
	t.Helper()
	return keep(t, []int{1, 7, 2, 1, 1000, 4},
		row(0, 1, 3, 1, 10), row(2, 2, 1, 2), row(3, 1, 6, 0, 30, 3), row(5, 4, 3, 4, 40))
}

func TestWhoComesAndGoes(t *testing.T) {
	gens := func(l ...int) []int { return l }
	rows := func(l ...api.Row) []api.Row { return l }
	zero, two, three, five := row(0, 1, 3, 1, 10), row(2, 2, 1, 2), row(3, 1, 6, 0, 30, 3), row(5, 4, 3, 4, 40)
	for _, c := range []struct {
		name string
		x    api.System
		gens []int
		rows []api.Row
	}{
		{"who is not asked for is left alone", system(2, 4, more(1, 1)), gens(1, 7, 2, 1, 1000, 4),
			rows(row(0, 1, 3, 1, 11), two, three, row(5, 4, 3, 4, 41))},
		{"tables are left and laid", system(1, 2, put(1, 5)), gens(1, 7, 2, 1, 1000, 4),
			rows(zero, row(2, 2, 3, 2, 5), three, five)},
		{"Kill all", system(0, 0, kill()), gens(1, 7, 2, 1, 1000, 4), nil},
		{"Kill some", system(3, 0, kill()), gens(1, 7, 2, 1, 1000, 4), rows(two, three)},
		{"Kill nobody", system(128, 0, kill()), gens(1, 7, 2, 1, 1000, 4), rows(zero, two, three, five)},
		{"nothing behind Kill", system(4, 0, kill(), put(0, 1), kill(), drop(0), cp(0, 2), spawn(1, 1)), gens(1, 7, 2, 1, 1000, 4),
			rows(zero, two, five)},
		{"acts ahead of Kill", system(4, 0, put(0, 9), spawn(0, 0), kill()), gens(1, 8, 2, 1, 1000, 4),
			rows(zero, row(1, 8, 0), two, five)},
		{"Spawn takes the lowest", system(4, 0, spawn(129, -6)), gens(1, 8, 2, 1, 1000, 4),
			rows(zero, row(1, 8, 129, -6, 0, 0, 0, 0, 0, 0, -6), two, three, five)},
		{"Spawn twice", system(4, 0, spawn(1, 8), spawn(2, 9)), gens(1, 8, 2, 1, 1000, 4, 1),
			rows(zero, row(1, 8, 1, 8), two, three, five, row(6, 1, 2, 0, 9))},
		{"who came has no turn", system(1, 0, spawn(1, 50), more(0, 1)), gens(1, 8, 2, 1, 1000, 4, 1, 1),
			rows(row(0, 1, 3, 2, 10), row(1, 8, 1, 50), row(2, 2, 1, 3), three, row(5, 4, 3, 5, 40), row(6, 1, 1, 50), row(7, 1, 1, 50))},
		{"who went makes room", system(1, 4, spawn(4, 7), kill()), gens(2, 8, 3, 1, 1000, 4),
			rows(row(0, 2, 4, 0, 0, 7), row(1, 8, 4, 0, 0, 7), row(2, 3, 4, 0, 0, 7), three)},
	} {
		got, err := run.Run(crowd(t), c.x)
		if want := keep(t, c.gens, c.rows...); err != api.OK || told(got) != told(want) {
			t.Errorf("%s: %v %v, not %v", c.name, got, err, want)
		}
	}
}

// TestWhoWentIsNotWhoCame: number 0 is somebody else's when 1 has its turn.
func TestWhoWentIsNotWhoCame(t *testing.T) {
	in := keep(t, []int{1, 1, 1}, row(0, 1, 1, 5), row(1, 1, 1, 6), row(2, 1, 1, 7))
	x := system(1, 0, spawn(1, 100), kill())
	got, err := run.Run(in, x)
	want := keep(t, []int{2, 2, 1, 1}, row(0, 2, 1, 100), row(1, 2, 1, 100), row(3, 1, 1, 100))
	if err != api.OK || told(got) != told(want) {
		t.Errorf("%v %v, not %v", got, err, want)
	}
}

func TestWithoutRoomNothingIsDone(t *testing.T) {
	for _, c := range []struct {
		name string
		in   api.Store
		x    api.System
		want api.Errno
	}{
		{"full", full(t), system(1, 0, spawn(0, 0)), api.ErrMany},
		{"full, and values ahead", full(t), system(1, 0, put(0, 5), spawn(0, 0)), api.ErrMany},
		{"full, and who goes goes too late", full(t), system(1, 0, spawn(0, 0), kill()), api.ErrMany},
		{"full, and nobody is asked", full(t), system(2, 0, spawn(0, 0)), api.OK},
		{"full, and no act behind Kill", full(t), system(1, 0, kill(), spawn(0, 0)), api.OK},
		{"all used up", keep(t, slices.Repeat([]int{1000}, 60), row(59, 1000, 1)), system(1, 0, spawn(0, 0)), api.ErrMany},
		{"used up but for one", keep(t, append(slices.Repeat([]int{1000}, 59), 999), row(0, 1000, 1)), system(1, 0, spawn(0, 0)), api.OK},
		{"room for one of two", keep(t, append([]int{1, 1}, slices.Repeat([]int{1000}, 57)...), row(0, 1, 1), row(1, 1, 1)), system(1, 0, spawn(0, 0)), api.ErrMany},
	} {
		got, err := run.Run(c.in, c.x)
		if err != c.want || (err != api.OK) != (told(got) == noStore) {
			t.Errorf("%s: %v %v, not %v", c.name, got, err, c.want)
		}
		all, fault := run.All(c.in, []api.System{system(0, 0), c.x})
		want := api.Fault{Err: c.want}
		if c.want != api.OK {
			want.At = 1
		}
		if fault != want || told(all) != told(got) {
			t.Errorf("%s, of all: %v %v, not %v", c.name, all, fault, want)
		}
	}
}

// faulty are systems, each with what is wrong with it.
func faulty() map[api.Errno][]api.System {
	return map[api.Errno][]api.System{
		api.ErrRange: {{Mod: 6}, {Mod: -1}, system(256, 0), system(0, -1), system(1, 0, kill(), put(8, 0)),
			system(1, 0, more(0, most+1)), system(1, 0, spawn(256, 0)), system(1, 0, cp(0, 8)), system(0, 0, drop(-1))},
		api.ErrMany: {system(1, 0, slices.Repeat([]api.Act{kill()}, 9)...)},
		api.ErrFit: {system(1, 0, cp(0, 1)), system(1, 0, add(1, 0)), system(1, 0, drop(0), more(0, 1)),
			system(0, 0, put(0, 1), more(0, 1))},
		api.ErrKind: {system(0, 0, api.Act{}), system(0, 0, kill(), api.Act{Kind: 8}), system(128, 0, api.Act{Kind: -1})},
	}
}

func TestAWrongSystemIsRefused(t *testing.T) {
	for want, l := range faulty() {
		for _, x := range l {
			for _, in := range []api.Store{{}, crowd(t), full(t)} {
				got, err := run.Run(in, x)
				if err != want || told(got) != noStore {
					t.Errorf("%v: %v %v, not %v", x, got, err, want)
				}
				got, fault := run.All(in, []api.System{system(1, 0, put(3, 1)), system(0, 0), x, {Mod: -1}})
				if fault != (api.Fault{Err: want, At: 2}) || told(got) != noStore {
					t.Errorf("%v, of all: %v %v, not %v", x, got, fault, want)
				}
			}
		}
	}
}

func TestAWrongStoreIsToldFirst(t *testing.T) {
	one := []api.Being{being(0, 1)}
	for _, c := range []struct {
		in   api.Store
		want api.Errno
	}{
		{api.Store{Gens: []int{0}}, api.ErrRange},
		{api.Store{Gens: slices.Repeat([]int{1}, 61)}, api.ErrMany},
		{api.Store{Gens: []int{1}, Tables: []api.Table{{Beings: one}, {Has: 1, Beings: one}}}, api.ErrMany},
		{api.Store{Gens: []int{1}, Tables: []api.Table{{Beings: one}, {Has: 256}}}, api.ErrRange},
		{api.Store{Gens: []int{1}, Tables: []api.Table{{Beings: one}, {Beings: one}}}, api.ErrForm},
		{api.Store{Gens: []int{2}, Tables: []api.Table{{Beings: one}}}, api.ErrFit},
	} {
		for _, x := range []api.System{{}, system(0, 0, kill()), {Mod: 6}, system(0, 0, api.Act{})} {
			got, err := run.Run(c.in, x)
			if err != c.want || told(got) != noStore {
				t.Errorf("%v: %v %v, not %v", c.in, got, err, c.want)
			}
			for _, l := range [][]api.System{nil, {x}, {{}, x}} {
				got, fault := run.All(c.in, l)
				if fault != (api.Fault{Err: c.want}) || told(got) != noStore {
					t.Errorf("%v, of all: %v %v, not %v at 0", c.in, got, fault, c.want)
				}
			}
		}
	}
}

func TestAllIsOneBehindTheOther(t *testing.T) {
	in := crowd(t)
	for _, l := range [][]api.System{nil, {}, {system(0, 0)}, {system(128, 0, kill()), system(1, 1, kill())}} {
		got, fault := run.All(in, l)
		if fault != (api.Fault{}) || told(got) != told(in) {
			t.Errorf("%v: %v %v, not what was there", l, got, fault)
		}
	}
	// Who gets part 2 by the first one is asked for by the second one, and so on.
	l := []api.System{
		system(2, 0, cp(2, 1)), system(4, 0, more(2, 5), drop(1)), system(1, 4, spawn(8, 3)), system(8, 0, put(0, -1)), system(1, 12, kill())}
	got, fault := run.All(in, l)
	want := keep(t, []int{1, 8, 2, 1, 1000, 4}, row(0, 1, 5, 1, 0, 15), row(1, 8, 9, -1, 0, 0, 3), row(3, 1, 4, 0, 0, 35), row(5, 4, 5, 4, 0, 45))
	if fault != (api.Fault{}) || told(got) != told(want) {
		t.Errorf("%v %v, not %v", got, fault, want)
	}
}

func TestTheFirstSystemThatFailsIsTold(t *testing.T) {
	none, wrong, grow := system(1, 0, more(0, 1)), system(0, 0, api.Act{}), system(1, 0, spawn(0, 0))
	for _, c := range []struct {
		l    []api.System
		want api.Fault
	}{
		{[]api.System{grow, wrong}, api.Fault{Err: api.ErrMany}},
		{[]api.System{wrong, grow}, api.Fault{Err: api.ErrKind}},
		{[]api.System{none, grow, wrong}, api.Fault{Err: api.ErrMany, At: 1}},
		{[]api.System{none, none, none, wrong, grow}, api.Fault{Err: api.ErrKind, At: 3}},
		{[]api.System{system(1, 0, kill()), grow, grow, wrong}, api.Fault{Err: api.ErrKind, At: 3}},
		{append(slices.Repeat([]api.System{none}, 100), grow), api.Fault{Err: api.ErrMany, At: 100}},
	} {
		got, fault := run.All(full(t), c.l)
		if fault != c.want || told(got) != noStore {
			t.Errorf("%v: %v %v, not %v", c.l, got, fault, c.want)
		}
	}
}
