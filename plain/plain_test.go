package plain_test

import (
	"math"
	"reflect"
	"slices"
	"testing"

	"broodhouse/api"
	"broodhouse/plain"
)

func being(index, gen int) api.Being { return api.Being{Index: index, Gen: gen} }

func row(index, gen, has int, vals ...int) api.Row {
	r := api.Row{Being: being(index, gen), Has: has}
	copy(r.Vals[:], vals)
	return r
}

func world(gens []int, rows ...api.Row) api.World { return api.World{Rows: rows, Gens: gens} }

// times is n gens, all of them gen.
func times(n, gen int) []int { return slices.Repeat([]int{gen}, n) }

func same(a, b api.World) bool {
	return slices.Equal(a.Rows, b.Rows) && slices.Equal(a.Gens, b.Gens)
}

func empty(w api.World) bool { return len(w.Rows) == 0 && len(w.Gens) == 0 }

// three is a right world of three beings, and a number that is free.
func three() api.World {
	return world([]int{1, 7, 3, 1000},
		row(0, 1, 5, 7, 0, -7),
		row(2, 3, 0),
		row(3, 1000, 255, 1, 2, 3, 4, 5, 6, api.MaxValue, -api.MaxValue))
}

// roomy is w with spare room behind its lists, and marks in it.
func roomy(w api.World) api.World {
	rows := append(slices.Clone(w.Rows), row(-9, -9, -9), row(-8, -8, -8), row(-7, -7, -7))
	gens := append(slices.Clone(w.Gens), -9, -8, -7)
	return world(gens[:len(w.Gens)], rows[:len(w.Rows)]...)
}

// whole is w with its spare room in the open.
func whole(w api.World) api.World {
	return world(slices.Clone(w.Gens[:cap(w.Gens)]), slices.Clone(w.Rows[:cap(w.Rows)])...)
}

// spoil writes over all of w, its spare room too.
func spoil(w api.World) {
	for i := range w.Rows[:cap(w.Rows)] {
		w.Rows[:cap(w.Rows)][i] = row(77, 77, 77, 77)
	}
	for i := range w.Gens[:cap(w.Gens)] {
		w.Gens[:cap(w.Gens)][i] = 77
	}
}

func TestWrongTellsEachFault(t *testing.T) {
	for _, c := range []struct {
		name string
		w    api.World
		want api.Fault
	}{
		{"nothing", api.World{}, api.Fault{}},
		{"empty lists", world([]int{}, []api.Row{}...), api.Fault{}},
		{"three beings", three(), api.Fault{}},
		{"gens without rows", world([]int{1, 1000}), api.Fault{}},
		{"as many gens as may be", world(times(60, 1)), api.Fault{}},
		{"a gen too many", world(times(61, 1)), api.Fault{Err: api.ErrMany}},
		{"gens too many, and wrong ones", world(times(61, 0), row(-1, 0, 256)), api.Fault{Err: api.ErrMany}},
		{"gen 0", world([]int{1, 1, 0}), api.Fault{Err: api.ErrRange, At: 2}},
		{"gen below 0", world([]int{1, -1, 0}), api.Fault{Err: api.ErrRange, At: 1}},
		{"gen 1001", world([]int{1000, 1001}), api.Fault{Err: api.ErrRange, At: 1}},
		{"outermost gens", world([]int{math.MaxInt, math.MinInt}), api.Fault{Err: api.ErrRange, At: 0}},
		{"a gen ahead of a row", world([]int{1, 0}, row(0, 1, 256)), api.Fault{Err: api.ErrRange, At: 1}},
		{"has 256", world([]int{1, 1}, row(0, 1, 1), row(1, 1, 256)), api.Fault{Err: api.ErrRange, At: 1}},
		{"has below 0", world([]int{1}, row(0, 1, -1)), api.Fault{Err: api.ErrRange}},
		{"a value too large", world([]int{1, 1}, row(0, 1, 1), row(1, 1, 1, 1000001)), api.Fault{Err: api.ErrRange, At: 1}},
		{"a value too small", world([]int{1}, row(0, 1, 128, 0, 0, 0, 0, 0, 0, 0, -1000001)), api.Fault{Err: api.ErrRange}},
		{"values at the edges", world([]int{1}, row(0, 1, 3, 1000000, -1000000)), api.Fault{}},
		{"a value of a part that it has not", world([]int{1, 1}, row(0, 1, 1), row(1, 1, 1, 0, 5)), api.Fault{Err: api.ErrRange, At: 1}},
		{"a value of the last part, that it has not", world([]int{1}, row(0, 1, 127, 0, 0, 0, 0, 0, 0, 0, -1)), api.Fault{Err: api.ErrRange}},
		{"a part of value 0", world([]int{1}, row(0, 1, 1)), api.Fault{}},
		{"index behind gens", world([]int{1, 1}, row(0, 1, 1), row(2, 1, 1)), api.Fault{Err: api.ErrRange, At: 1}},
		{"index below 0", world([]int{1}, row(-1, 1, 1)), api.Fault{Err: api.ErrRange}},
		{"outermost index", world([]int{1}, row(math.MaxInt, 1, 1)), api.Fault{Err: api.ErrRange}},
		{"a row, and no gens", world(nil, row(0, 1, 0)), api.Fault{Err: api.ErrRange}},
		{"index below 0 is told ahead of the order", world([]int{1}, row(0, 1, 1), row(-1, 1, 1)), api.Fault{Err: api.ErrRange, At: 1}},
		{"rows fall", world([]int{1, 1, 1}, row(0, 1, 1), row(2, 1, 1), row(1, 1, 1)), api.Fault{Err: api.ErrForm, At: 2}},
		{"a row twice", world([]int{1, 1}, row(1, 1, 1), row(1, 1, 1)), api.Fault{Err: api.ErrForm, At: 1}},
		{"the order is told ahead of the gen", world([]int{1, 1}, row(1, 1, 1), row(0, 2, 1)), api.Fault{Err: api.ErrForm, At: 1}},
		{"a gen that has been", world([]int{1, 2}, row(0, 1, 1), row(1, 1, 1)), api.Fault{Err: api.ErrFit, At: 1}},
		{"a gen to come", world([]int{1}, row(0, 2, 1)), api.Fault{Err: api.ErrFit}},
		{"the first row is told", world([]int{1, 1}, row(0, 2, 1), row(1, 1, 256)), api.Fault{Err: api.ErrFit}},
	} {
		if got := plain.Wrong(c.w); got != c.want {
			t.Errorf("%s: %v, not %v", c.name, got, c.want)
		}
	}
}

func TestOwnIsACopy(t *testing.T) {
	for _, w := range []api.World{{}, three(), world([]int{-1, 5000}, row(9, 9, 999, 5), row(-2, 0, 0))} {
		in := roomy(w)
		before := whole(in)
		got := plain.Own(in)
		if !same(got, w) {
			t.Errorf("%v is copied as %v", w, got)
		}
		spoil(got)
		if !same(whole(in), before) {
			t.Errorf("the copy of %v shares memory with it", w)
		}
	}
}

func TestNextIsTheLowestFreeNumber(t *testing.T) {
	for _, c := range []struct {
		name string
		w    api.World
		want api.Being
		err  api.Errno
	}{
		{"of nothing", api.World{}, being(0, 1), api.OK},
		{"a free one", three(), being(1, 8), api.OK},
		{"the first of two free ones", world([]int{4, 5}), being(0, 5), api.OK},
		{"none is free", world([]int{4, 5}, row(0, 4, 0), row(1, 5, 0)), being(2, 1), api.OK},
		{"used once less than may be", world([]int{999}), being(0, 1000), api.OK},
		{"used as often as may be", world([]int{1000}), being(1, 1), api.OK},
		{"used up, and one that is free", world([]int{1000, 3}), being(1, 4), api.OK},
		{"the last number", world(times(59, 1000)), being(59, 1), api.OK},
		{"all are used up", world(times(60, 1000)), api.Being{}, api.ErrMany},
		{"more than all are used up", world(times(61, 1000)), api.Being{}, api.ErrMany},
		{"free, though there are too many", world(append(times(60, 1000), 9)), being(60, 10), api.OK},
		{"rows that are no numbers of gens", world([]int{1000}, row(-1, 1, 0), row(5, 1, 0), row(math.MinInt, 1, 0)), being(1, 1), api.OK},
		{"rows in disorder", world([]int{1, 1, 1}, row(1, 1, 0), row(0, 9, 0)), being(2, 2), api.OK},
		{"a gen below 1", world([]int{-3}), being(0, -2), api.OK},
		{"the outermost gens", world([]int{math.MaxInt, math.MinInt}), being(1, math.MinInt+1), api.OK},
	} {
		got, err := plain.Next(c.w)
		if got != c.want || err != c.err {
			t.Errorf("%s: %v %v, not %v %v", c.name, got, err, c.want, c.err)
		}
	}
}

func TestABeingThatWentComesAgainUsedTwice(t *testing.T) {
	w, first, err := plain.Spawn(api.World{}, 3, 4)
	if err != api.OK || first != being(0, 1) {
		t.Fatalf("%v %v", first, err)
	}
	w, err = plain.Kill(w, first)
	if err != api.OK || !same(w, world([]int{1})) {
		t.Fatalf("%v %v", w, err)
	}
	w, second, err := plain.Spawn(w, 1, -4)
	if err != api.OK || second != being(0, 2) {
		t.Fatalf("%v %v", second, err)
	}
	if n, ok := plain.Get(w, first, 0); n != 0 || ok {
		t.Errorf("the first one is told to have %d %v", n, ok)
	}
	if _, err := plain.Kill(w, first); err != api.ErrNone {
		t.Errorf("the first one goes again: %v", err)
	}
	if n, ok := plain.Get(w, second, 0); n != -4 || !ok {
		t.Errorf("the second one has %d %v", n, ok)
	}
}

func TestSpawnOfEachSet(t *testing.T) {
	for has := 0; has <= api.Every; has++ {
		got, b, err := plain.Spawn(three(), has, 6)
		want := three()
		came := row(1, 8, has)
		for part, rest := 0, has; part < api.Kinds; part, rest = part+1, rest/2 {
			if rest%2 == 1 {
				came.Vals[part] = 6
			}
		}
		want.Rows = slices.Insert(want.Rows, 1, came)
		want.Gens[1] = 8
		if err != api.OK || b != being(1, 8) || !same(got, want) {
			t.Errorf("%d: %v %v %v", has, got, b, err)
		}
		if fault := plain.Wrong(got); fault.Err != api.OK {
			t.Errorf("%d makes it wrong: %v", has, fault)
		}
	}
}

func TestSpawnUntilThereIsNoRoom(t *testing.T) {
	w := api.World{}
	for i := range api.MaxBeing {
		next, b, err := plain.Spawn(w, i, i)
		if err != api.OK || b != being(i, 1) || len(next.Rows) != i+1 || len(next.Gens) != i+1 {
			t.Fatalf("being %d: %v %v", i, b, err)
		}
		w = next
	}
	for _, c := range []struct {
		has, n int
		want   api.Errno
	}{{0, 0, api.ErrMany}, {256, 0, api.ErrRange}, {0, 1000001, api.ErrRange}} {
		got, b, err := plain.Spawn(w, c.has, c.n)
		if err != c.want || b != (api.Being{}) || !empty(got) {
			t.Errorf("Spawn %d %d in a full world: %v %v %v", c.has, c.n, got, b, err)
		}
	}
	w, err := plain.Kill(w, being(31, 1))
	if err != api.OK {
		t.Fatal(err)
	}
	if _, b, err := plain.Spawn(w, 0, 0); b != being(31, 2) || err != api.OK {
		t.Errorf("in the room of one that went: %v %v", b, err)
	}
}

func TestSpawnRefuses(t *testing.T) {
	for _, c := range []struct {
		w      api.World
		has, n int
		want   api.Errno
	}{
		{three(), 256, 0, api.ErrRange},
		{three(), -1, 0, api.ErrRange},
		{three(), math.MinInt, 0, api.ErrRange},
		{three(), 0, 1000001, api.ErrRange},
		{three(), 1, -1000001, api.ErrRange},
		{three(), 1, math.MaxInt, api.ErrRange},
		{world(times(60, 1000)), 1, 1, api.ErrMany},
		{world(times(61, 1)), 256, 1, api.ErrMany},
		{world([]int{0}), 1, 1, api.ErrRange},
		{world([]int{1}, row(0, 2, 0)), 256, 1, api.ErrFit},
		{world([]int{1, 1}, row(1, 1, 0), row(0, 1, 0)), 1, 1000001, api.ErrForm},
	} {
		got, b, err := plain.Spawn(c.w, c.has, c.n)
		if err != c.want || b != (api.Being{}) || !empty(got) {
			t.Errorf("Spawn(%v, %d, %d): %v %v %v, not %v", c.w, c.has, c.n, got, b, err, c.want)
		}
	}
}

func TestKillTakesTheRowAlone(t *testing.T) {
	for at, r := range three().Rows {
		want := three()
		want.Rows = slices.Delete(want.Rows, at, at+1)
		got, err := plain.Kill(three(), r.Being)
		if err != api.OK || !same(got, want) {
			t.Errorf("without %v: %v %v", r.Being, got, err)
		}
	}
}

func TestPutEachPart(t *testing.T) {
	for at, r := range three().Rows {
		for part := range api.Kinds {
			for _, n := range []int{0, 1, -5, api.MaxValue, -api.MaxValue} {
				want := three()
				want.Rows[at].Has |= 1 << part
				want.Rows[at].Vals[part] = n
				got, err := plain.Put(three(), r.Being, part, n)
				if err != api.OK || !same(got, want) {
					t.Errorf("%v with %d of %d: %v %v", r.Being, part, n, got, err)
				}
				if m, ok := plain.Get(got, r.Being, part); m != n || !ok {
					t.Errorf("%d was put, and %d %v is there", n, m, ok)
				}
			}
		}
	}
}

func TestDropEachPart(t *testing.T) {
	for at, r := range three().Rows {
		for part := range api.Kinds {
			got, err := plain.Drop(three(), r.Being, part)
			if r.Has&(1<<part) == 0 {
				if err != api.ErrNone || !empty(got) {
					t.Errorf("%v has not %d: %v %v", r.Being, part, got, err)
				}
				continue
			}
			want := three()
			want.Rows[at].Has -= 1 << part
			want.Rows[at].Vals[part] = 0
			if err != api.OK || !same(got, want) {
				t.Errorf("%v without %d: %v %v", r.Being, part, got, err)
			}
		}
	}
}

// strangers are beings that are not of three: none of that number, none of
// that gen, one that has been, and one that is to come.
var strangers = []api.Being{
	{Index: 0, Gen: 0}, {Index: 0, Gen: 2}, {Index: 1, Gen: 7}, {Index: 1, Gen: 8}, {Index: 2, Gen: 1},
	{Index: 4, Gen: 1}, {Index: -1, Gen: 1}, {Index: math.MaxInt, Gen: math.MinInt},
}

func TestWhoIsNotThereIsNone(t *testing.T) {
	for _, b := range strangers {
		killed, err := plain.Kill(three(), b)
		if err != api.ErrNone || !empty(killed) {
			t.Errorf("Kill %v: %v %v", b, killed, err)
		}
		for _, part := range []int{0, 7, 8, -1} {
			for _, n := range []int{0, 1000001} {
				put, err := plain.Put(three(), b, part, n)
				if err != api.ErrNone || !empty(put) {
					t.Errorf("Put %v %d %d: %v %v", b, part, n, put, err)
				}
			}
			dropped, err := plain.Drop(three(), b, part)
			if err != api.ErrNone || !empty(dropped) {
				t.Errorf("Drop %v %d: %v %v", b, part, dropped, err)
			}
			if n, ok := plain.Get(three(), b, part); n != 0 || ok {
				t.Errorf("Get %v %d: %v %v", b, part, n, ok)
			}
		}
	}
}

func TestNumbersThatAreNoPartOrNoValue(t *testing.T) {
	b := being(3, 1000)
	for _, part := range []int{-1, 8, 9, 63, 64, math.MinInt, math.MaxInt} {
		put, err := plain.Put(three(), b, part, 0)
		if err != api.ErrRange || !empty(put) {
			t.Errorf("Put part %d: %v %v", part, put, err)
		}
		dropped, err := plain.Drop(three(), b, part)
		if err != api.ErrNone || !empty(dropped) {
			t.Errorf("Drop part %d: %v %v", part, dropped, err)
		}
		if n, ok := plain.Get(three(), b, part); n != 0 || ok {
			t.Errorf("Get part %d: %v %v", part, n, ok)
		}
	}
	for _, n := range []int{1000001, -1000001, math.MinInt, math.MaxInt} {
		put, err := plain.Put(three(), b, 0, n)
		if err != api.ErrRange || !empty(put) {
			t.Errorf("Put %d: %v %v", n, put, err)
		}
	}
}

func TestWhatIsWrongIsToldFirst(t *testing.T) {
	for _, c := range []struct {
		w    api.World
		want api.Errno
	}{
		{world(times(61, 1)), api.ErrMany},
		{world([]int{1001}), api.ErrRange},
		{world([]int{1}, row(0, 1, 256)), api.ErrRange},
		{world([]int{1, 1}, row(1, 1, 0), row(0, 1, 0)), api.ErrForm},
		{world([]int{1, 2}, row(0, 1, 1), row(1, 1, 0)), api.ErrFit},
	} {
		for _, b := range []api.Being{being(0, 1), being(9, 9)} {
			killed, err := plain.Kill(c.w, b)
			if err != c.want || !empty(killed) {
				t.Errorf("Kill: %v %v, not %v", killed, err, c.want)
			}
			put, err := plain.Put(c.w, b, 8, 0)
			if err != c.want || !empty(put) {
				t.Errorf("Put: %v %v, not %v", put, err, c.want)
			}
			dropped, err := plain.Drop(c.w, b, 5)
			if err != c.want || !empty(dropped) {
				t.Errorf("Drop: %v %v, not %v", dropped, err, c.want)
			}
		}
	}
}

func TestGetTellsEachPart(t *testing.T) {
	for _, r := range three().Rows {
		for part := range api.Kinds {
			n, ok := plain.Get(three(), r.Being, part)
			if n != r.Vals[part] || ok != (r.Has>>part%2 == 1) {
				t.Errorf("%d of %v is %d %v", part, r.Being, n, ok)
			}
		}
	}
	if n, ok := plain.Get(world([]int{1}, row(0, 1, 2)), being(0, 1), 1); n != 0 || !ok {
		t.Errorf("a part that is 0 is told as %d %v", n, ok)
	}
}

func TestMatchTellsWhoMeets(t *testing.T) {
	a, b, c := being(0, 1), being(2, 3), being(3, 1000)
	for _, x := range []struct {
		f    api.Filter
		want []api.Being
	}{
		{api.Filter{}, []api.Being{a, b, c}},
		{api.Filter{All: 1}, []api.Being{a, c}},
		{api.Filter{All: 5}, []api.Being{a, c}},
		{api.Filter{All: 7}, []api.Being{c}},
		{api.Filter{All: 255}, []api.Being{c}},
		{api.Filter{None: 2}, []api.Being{a, b}},
		{api.Filter{None: 255}, []api.Being{b}},
		{api.Filter{All: 4, None: 128}, []api.Being{a}},
		{api.Filter{All: 1, None: 1}, nil},
	} {
		if got := plain.Match(three(), x.f); !slices.Equal(got, x.want) {
			t.Errorf("%v: %v, not %v", x.f, got, x.want)
		}
	}
	if got := plain.Match(api.World{}, api.Filter{}); len(got) != 0 {
		t.Errorf("of nothing: %v", got)
	}
}

// calls are all calls that answer a world, each of them by what it answers of w.
var calls = []struct {
	name string
	call func(w api.World) api.World
}{
	{"Own", plain.Own},
	{"Spawn", func(w api.World) api.World { x, _, _ := plain.Spawn(w, 9, 2); return x }},
	{"Kill", func(w api.World) api.World { x, _ := plain.Kill(w, being(0, 1)); return x }},
	{"Kill the last", func(w api.World) api.World { x, _ := plain.Kill(w, being(3, 1000)); return x }},
	{"Put", func(w api.World) api.World { x, _ := plain.Put(w, being(2, 3), 4, 1); return x }},
	{"Drop", func(w api.World) api.World { x, _ := plain.Drop(w, being(3, 1000), 7); return x }},
}

func TestWhatIsHandedInIsOnlyReadAndNotKept(t *testing.T) {
	for _, c := range calls {
		in := roomy(three())
		before := whole(in)
		got := c.call(in)
		if !same(whole(in), before) {
			t.Errorf("%s changes what it is given: %v", c.name, whole(in))
		}
		kept := plain.Own(got)
		spoil(in)
		if !same(got, kept) {
			t.Errorf("%s keeps what it is given", c.name)
		}
		in = roomy(three())
		spoil(c.call(in))
		if !same(whole(in), before) {
			t.Errorf("%s answers memory that it was given", c.name)
		}
	}
}

func TestMatchIsTheCallersOwn(t *testing.T) {
	w := three()
	first, second := plain.Match(w, api.Filter{}), plain.Match(w, api.Filter{})
	for i := range first[:cap(first)] {
		first[:cap(first)][i] = being(-1, -1)
	}
	if !same(w, three()) || !slices.Equal(second, []api.Being{being(0, 1), being(2, 3), being(3, 1000)}) {
		t.Error("one answer's change shows elsewhere")
	}
}

func TestNilIsAsEmpty(t *testing.T) {
	none := world(make([]int, 0, 4), make([]api.Row, 0, 4)...)
	if plain.Wrong(none).Err != api.OK || !empty(plain.Own(none)) {
		t.Error("an empty world is wrong, or has something")
	}
	a, b, err := plain.Spawn(none, 1, 1)
	x, y, err2 := plain.Spawn(api.World{}, 1, 1)
	if !same(a, x) || b != y || err != err2 {
		t.Errorf("%v %v %v, and of nil %v %v %v", a, b, err, x, y, err2)
	}
}

func TestNoWorldPanics(t *testing.T) {
	odd := []int{math.MinInt, -1, 0, 1, 7, 8, 255, 256, 1000, 1001, math.MaxInt}
	for _, i := range odd {
		for _, g := range odd {
			w := world([]int{g, 1}, row(i, g, g, i), row(g, i, i, g))
			plain.Wrong(w)
			plain.Next(w)
			plain.Spawn(w, i, g)
			plain.Kill(w, being(i, g))
			plain.Put(w, being(i, g), g, i)
			plain.Drop(w, being(i, g), g)
			plain.Get(w, being(i, g), i)
			plain.Match(w, api.Filter{All: i, None: g})
			if !reflect.DeepEqual(plain.Own(w), w) {
				t.Errorf("%v is copied as %v", w, plain.Own(w))
			}
		}
	}
}
