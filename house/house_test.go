package house_test

import (
	"fmt"
	"math"
	"slices"
	"testing"

	"broodhouse/api"
	"broodhouse/house"
)

const most = api.MaxValue

// The fields that a kind has not stand at a number that is no part, no set and
// no value, so that whoever looks at them is found out.
const odd = math.MinInt

func put(part, n int) api.Act    { return api.Act{Kind: api.Put, Part: part, From: odd, N: n} }
func cp(part, from int) api.Act  { return api.Act{Kind: api.Copy, Part: part, From: from, N: odd} }
func add(part, from int) api.Act { return api.Act{Kind: api.Add, Part: part, From: from, N: odd} }
func more(part, n int) api.Act   { return api.Act{Kind: api.More, Part: part, From: odd, N: n} }
func drop(part int) api.Act      { return api.Act{Kind: api.Drop, Part: part, From: odd, N: odd} }
func kill() api.Act              { return api.Act{Kind: api.Kill, Part: odd, From: odd, N: odd} }
func spawn(set, n int) api.Act   { return api.Act{Kind: api.Spawn, Part: set, From: odd, N: n} }

func being(index, gen int) api.Being { return api.Being{Index: index, Gen: gen} }

func system(mod, all, none int, acts ...api.Act) api.System {
	return api.System{Mod: mod, Filter: api.Filter{All: all, None: none}, Acts: acts}
}

// bare is a thing of that kind, all of its fields odd.
func bare(kind int) api.Do {
	return api.Do{
		Kind: kind, Has: odd, Part: odd, N: odd,
		Being:  being(odd, odd),
		System: system(odd, odd, odd, api.Act{Kind: odd, Part: odd, From: odd, N: odd}),
		Filter: api.Filter{All: odd, None: odd},
	}
}

func doSpawn(has, n int) api.Do {
	d := bare(api.DoSpawn)
	d.Has, d.N = has, n
	return d
}

func doKill(index, gen int) api.Do {
	d := bare(api.DoKill)
	d.Being = being(index, gen)
	return d
}

func doPut(index, gen, part, n int) api.Do {
	d := bare(api.DoPut)
	d.Being, d.Part, d.N = being(index, gen), part, n
	return d
}

func doDrop(index, gen, part int) api.Do {
	d := bare(api.DoDrop)
	d.Being, d.Part = being(index, gen), part
	return d
}

func doSystem(x api.System) api.Do {
	d := bare(api.DoSystem)
	d.System = x
	return d
}

func doTick() api.Do { return bare(api.DoTick) }

func doAsk(all, none, part int) api.Do {
	d := bare(api.DoAsk)
	d.Filter, d.Part = api.Filter{All: all, None: none}, part
	return d
}

func do(l ...api.Do) []api.Do { return l }

func fault(err api.Errno, at int) api.Fault { return api.Fault{Err: err, At: at} }

// told is how a value reads: nil and empty lists read alike.
func told(l ...any) string { return fmt.Sprint(l...) }

const noHouse = "{{[] []} [] []}"

// all is a mod that may do everything.
var all = api.Mod{Reads: api.Every, Writes: api.Every, Life: true}

// played is the house of all, and the answers; nothing may be wrong with them.
func played(t *testing.T, mods []api.Mod, l []api.Do) (api.House, []api.Answer) {
	t.Helper()
	h, came, f := house.Play(mods, l)
	if f != (api.Fault{}) || len(came) != len(l) {
		t.Fatalf("%v of %v: %d answers, %v", l, mods, len(came), f)
	}
	return h, came
}

// refused tells by err that a thing is refused, and of nothing else.
func refused(err api.Errno) api.Answer { return api.Answer{Err: err} }

func who(index, gen int) api.Answer { return api.Answer{Being: being(index, gen)} }

func many(n int) api.Answer { return api.Answer{N: n} }

func found(n int, l ...api.Being) api.Answer { return api.Answer{Beings: l, N: n} }

var done = api.Answer{}

func TestAPartIsFiveAndATickLaterSeven(t *testing.T) {
	h, came := played(t, []api.Mod{all}, do(
		doSpawn(1, 5), doAsk(1, 0, 0), doSystem(system(0, 1, 0, more(0, 2))), doAsk(1, 0, 0), doTick(), doAsk(1, 0, 0)))
	want := []api.Answer{who(0, 1), found(5, being(0, 1)), many(1), found(5, being(0, 1)), many(1), found(7, being(0, 1))}
	if told(came) != told(want) {
		t.Errorf("%v, not %v", came, want)
	}
	if got := told(h.Store); got != "{[{1 [{0 1}] [[7]]}] [1]}" {
		t.Error(got)
	}
	if told(h.Mods) != told([]api.Mod{all}) || told(h.Systems) != told([]api.System{system(0, 1, 0, more(0, 2))}) {
		t.Error(h)
	}
}

func TestWhatIsWrongWithMods(t *testing.T) {
	for _, c := range []struct {
		name string
		l    []api.Mod
		want api.Fault
	}{
		{"none", nil, api.Fault{}},
		{"empty", []api.Mod{}, api.Fault{}},
		{"one that may nothing", []api.Mod{{}}, api.Fault{}},
		{"one that may everything", []api.Mod{all}, api.Fault{}},
		{"six", make([]api.Mod, 6), api.Fault{}},
		{"writes what it does not read", []api.Mod{{Writes: 3}}, api.Fault{}},
		{"life alone", []api.Mod{{Life: true}}, api.Fault{}},
		{"seven", make([]api.Mod, 7), fault(api.ErrMany, 0)},
		{"far too many", make([]api.Mod, 5000), fault(api.ErrMany, 0)},
		{"seven, and a wrong one first", append([]api.Mod{{Reads: 256}}, make([]api.Mod, 6)...), fault(api.ErrMany, 0)},
		{"seven, and a wrong one last", append(make([]api.Mod, 6), api.Mod{Writes: -1}), fault(api.ErrMany, 0)},
		{"reads 256", []api.Mod{{Reads: 256}}, fault(api.ErrRange, 0)},
		{"reads below 0", []api.Mod{{}, {Reads: -1}}, fault(api.ErrRange, 1)},
		{"writes 256", []api.Mod{{}, {}, {Writes: 256}}, fault(api.ErrRange, 2)},
		{"writes below 0", []api.Mod{{}, {}, {}, {Writes: -1}}, fault(api.ErrRange, 3)},
		{"reads all there is", []api.Mod{{Reads: math.MaxInt, Writes: 1}}, fault(api.ErrRange, 0)},
		{"writes least", []api.Mod{all, {Reads: 1, Writes: math.MinInt, Life: true}}, fault(api.ErrRange, 1)},
		{"the last of six", append(make([]api.Mod, 5), api.Mod{Reads: 256, Writes: 256}), fault(api.ErrRange, 5)},
		{"the first of two", []api.Mod{{}, {Writes: 300}, {Reads: 300}}, fault(api.ErrRange, 1)},
	} {
		if got := house.Wrong(c.l); got != c.want {
			t.Errorf("%s: %v comes, not %v", c.name, got, c.want)
		}
		// What is wrong with mods is told ahead of too many things.
		for _, l := range [][]api.Do{nil, {doSpawn(1, 1)}, slices.Repeat(do(doTick()), 81)} {
			h, came, f := house.Play(c.l, l)
			want, wantHouse, wantCame := c.want, noHouse, 0
			if want == (api.Fault{}) && len(l) > api.MaxDo {
				want = fault(api.ErrMany, 0)
			}
			if want == (api.Fault{}) {
				wantHouse, wantCame = told(h), len(l)
			}
			if f != want || len(came) != wantCame || told(h) != wantHouse {
				t.Errorf("%s: %v %v %v of %d things", c.name, h, came, f, len(l))
			}
			if f == (api.Fault{}) && told(h.Mods) != told(c.l) {
				t.Errorf("%s: a house of %v", c.name, h.Mods)
			}
		}
	}
}

func TestHowManyThingsAreDone(t *testing.T) {
	for _, c := range []struct {
		things int
		want   api.Fault
	}{
		{0, api.Fault{}}, {1, api.Fault{}}, {79, api.Fault{}}, {80, api.Fault{}},
		{81, fault(api.ErrMany, 0)}, {82, fault(api.ErrMany, 0)}, {5000, fault(api.ErrMany, 0)},
	} {
		for _, d := range do(doSpawn(1, 1), doTick(), api.Do{}) {
			h, came, f := house.Play([]api.Mod{all}, slices.Repeat(do(d), c.things))
			if f != c.want {
				t.Errorf("%d things: %v, not %v", c.things, f, c.want)
			}
			if f == (api.Fault{}) && (len(came) != c.things || len(h.Mods) != 1) {
				t.Errorf("%d things: %v and %d answers", c.things, h, len(came))
			}
			if f != (api.Fault{}) && (len(came) != 0 || told(h) != noHouse) {
				t.Errorf("%d things: %v and %v beside %v", c.things, h, came, f)
			}
		}
	}
}

func TestAHouseOfMods(t *testing.T) {
	mods := []api.Mod{{Reads: 1}, {Writes: 2}, {Life: true}, all, {}, {Reads: 255, Writes: 128}}
	h, came := played(t, mods, nil)
	if told(h) != told(api.House{Mods: mods}) || len(came) != 0 {
		t.Errorf("%v %v", h, came)
	}
}

// step is one thing, and what must come of it.
type step struct {
	do   api.Do
	want api.Answer
}

// check plays steps one behind the other: all of them, and, of each that is
// refused or only asks, that the house is as it was.
func check(t *testing.T, mods []api.Mod, steps []step) api.House {
	t.Helper()
	var l []api.Do
	before, _ := played(t, mods, nil)
	for at, s := range steps {
		l = append(l, s.do)
		h, came := played(t, mods, l)
		if told(came[at]) != told(s.want) {
			t.Errorf("thing %d, of kind %d: %v, not %v", at, s.do.Kind, came[at], s.want)
		}
		if (came[at].Err != api.OK || s.do.Kind == api.DoAsk) && told(h) != told(before) {
			t.Errorf("thing %d, of kind %d, leaves %v, and there was %v", at, s.do.Kind, h, before)
		}
		for k := range at {
			if told(came[k]) != told(steps[k].want) {
				t.Errorf("thing %d answers %v once thing %d was done", k, came[k], at)
			}
		}
		before = h
	}
	return before
}

func TestBeingsComeAndGo(t *testing.T) {
	h := check(t, nil, []step{
		{doKill(0, 1), refused(api.ErrNone)},
		{doSpawn(256, 1), refused(api.ErrRange)},
		{doSpawn(-1, 1), refused(api.ErrRange)},
		{doSpawn(1, most+1), refused(api.ErrRange)},
		{doSpawn(0, -most-1), refused(api.ErrRange)},
		{doSpawn(3, 5), who(0, 1)},
		{doSpawn(0, most), who(1, 1)},
		{doSpawn(255, -most), who(2, 1)},
		{doSpawn(3, 6), who(3, 1)},
		{doKill(0, 2), refused(api.ErrNone)},
		{doKill(0, 0), refused(api.ErrNone)},
		{doKill(4, 1), refused(api.ErrNone)},
		{doKill(-1, 1), refused(api.ErrNone)},
		{doKill(odd, odd), refused(api.ErrNone)},
		{doKill(math.MaxInt, 1), refused(api.ErrNone)},
		{doKill(0, 1), done},
		{doKill(0, 1), refused(api.ErrNone)},
		{doPut(0, 1, 0, 1), refused(api.ErrNone)},
		{doDrop(0, 1, 0), refused(api.ErrNone)},
		{doSpawn(1, 9), who(0, 2)},
		{doKill(0, 1), refused(api.ErrNone)},
		{doKill(2, 1), done},
		{doSpawn(4, 0), who(2, 2)},
		{doSpawn(4, 1), who(4, 1)},
	})
	if got := told(h.Store); got != "{[{0 [{1 1}] []} {1 [{0 2}] [[9]]} {3 [{3 1}] [[6] [6]]} {4 [{2 2} {4 1}] [[0 1]]}] [2 1 2 1 1]}" {
		t.Error(got)
	}
}

func TestPartsArePutAndDropped(t *testing.T) {
	h := check(t, nil, []step{
		{doSpawn(5, 5), who(0, 1)},
		{doSpawn(5, 6), who(1, 1)},
		{doPut(0, 1, 1, 9), done},
		{doPut(0, 1, 1, -9), done},
		{doPut(0, 1, 7, most), done},
		{doPut(0, 1, 0, -most), done},
		{doPut(0, 1, 8, 1), refused(api.ErrRange)},
		{doPut(0, 1, -1, 1), refused(api.ErrRange)},
		{doPut(0, 1, 0, most+1), refused(api.ErrRange)},
		{doPut(0, 1, 0, -most-1), refused(api.ErrRange)},
		{doPut(0, 2, 0, 1), refused(api.ErrNone)},
		{doPut(2, 1, 0, 1), refused(api.ErrNone)},
		{doPut(2, 1, 8, most+1), refused(api.ErrNone)},
		{doDrop(1, 1, 1), refused(api.ErrNone)},
		{doDrop(1, 1, 8), refused(api.ErrNone)},
		{doDrop(1, 1, -1), refused(api.ErrNone)},
		{doDrop(1, 2, 0), refused(api.ErrNone)},
		{doDrop(1, 1, 0), done},
		{doDrop(1, 1, 0), refused(api.ErrNone)},
		{doDrop(1, 1, 2), done},
		{doDrop(0, 1, 2), done},
	})
	if got := told(h.Store); got != "{[{0 [{1 1}] []} {131 [{0 1}] [[-1000000] [-9] [1000000]]}] [1 1]}" {
		t.Error(got)
	}
}

func TestThereIsRoomForSixty(t *testing.T) {
	var steps []step
	for n := range api.MaxBeing {
		steps = append(steps, step{doSpawn(0, n), who(n, 1)})
	}
	steps = append(steps,
		step{doSpawn(0, 0), refused(api.ErrMany)},
		step{doSpawn(256, 0), refused(api.ErrRange)},
		step{doKill(33, 1), done},
		step{doSpawn(1, 0), who(33, 2)},
		step{doSpawn(1, 0), refused(api.ErrMany)})
	check(t, nil, steps)
}

func TestSystemsCome(t *testing.T) {
	mods := []api.Mod{{Reads: 7, Writes: 3}, all, {}, {Reads: 255, Writes: 255}}
	wrongAtTwo := system(1, 1, 0, put(0, 1), kill(), api.Act{})
	h := check(t, mods, []step{
		{doSystem(system(0, 3, 4, add(0, 1), cp(1, 0))), many(1)},
		{doSystem(system(0, 4, 0, more(2, 1))), refused(api.ErrMay)},             // writes 2
		{doSystem(system(0, 8, 0)), refused(api.ErrMay)},                         // asks for 3
		{doSystem(system(0, 0, 8)), refused(api.ErrMay)},                         // asks for no 3
		{doSystem(system(0, 0, 0, drop(2))), refused(api.ErrMay)},                // writes 2
		{doSystem(system(0, 0, 0, put(0, 1), spawn(4, 1))), refused(api.ErrMay)}, // writes 2, and has no life
		{doSystem(system(0, 1, 0, kill())), refused(api.ErrMay)},                 // has no life
		{doSystem(system(0, 1, 0, spawn(0, 0))), refused(api.ErrMay)},            // has no life
		{doSystem(system(3, 1, 0, spawn(0, 0))), refused(api.ErrMay)},            // has no life either
		{doSystem(system(2, 0, 0)), many(2)},                                     // does nothing
		{doSystem(system(2, 0, 0, put(0, 1))), refused(api.ErrMay)},              // may nothing
		{doSystem(system(1, 1, 0, kill())), many(3)},                             // has life
		{doSystem(system(4, 0, 0)), refused(api.ErrNone)},                        // four mods are there
		{doSystem(system(5, 1, 0, kill())), refused(api.ErrNone)},                // so no fifth one
		{doSystem(system(6, 0, 0)), refused(api.ErrRange)},                       // no number of a mod
		{doSystem(system(-1, 0, 0)), refused(api.ErrRange)},                      // nor this
		{doSystem(system(odd, 0, 0)), refused(api.ErrRange)},                     // nor this
		{doSystem(system(1, 256, 0)), refused(api.ErrRange)},                     // All is no set
		{doSystem(system(1, 0, -1)), refused(api.ErrRange)},                      // None is none
		{doSystem(system(5, 0, 256)), refused(api.ErrRange)},                     // ahead of no mod
		{doSystem(system(1, 0, 0, more(0, 1))), refused(api.ErrFit)},             // reads what it does not ask for
		{doSystem(system(2, 0, 0, more(0, 1))), refused(api.ErrFit)},             // ahead of what it may
		{doSystem(system(1, 1, 0, put(0, most+1))), refused(api.ErrRange)},       // no value
		{doSystem(wrongAtTwo), refused(api.ErrKind)},                             // the act is told by its error alone
		{doSystem(system(1, 0, 0, slices.Repeat([]api.Act{kill()}, 9)...)), refused(api.ErrMany)},
		{doSystem(system(1, 0, 0, slices.Repeat([]api.Act{kill()}, 8)...)), many(4)},
		{doSystem(system(3, 128, 64, cp(0, 7))), many(5)},
	})
	want := []api.System{
		system(0, 3, 4, add(0, 1), cp(1, 0)), system(2, 0, 0), system(1, 1, 0, kill()),
		system(1, 0, 0, slices.Repeat([]api.Act{kill()}, 8)...), system(3, 128, 64, cp(0, 7)),
	}
	if told(h.Systems) != told(want) || told(h.Store) != "{[] []}" || told(h.Mods) != told(mods) {
		t.Errorf("%v", h)
	}
}

func TestWithoutModsNoSystemComes(t *testing.T) {
	check(t, nil, []step{
		{doSystem(api.System{}), refused(api.ErrNone)},
		{doSystem(system(5, 0, 0)), refused(api.ErrNone)},
		{doSystem(system(6, 0, 0)), refused(api.ErrRange)},
		{doTick(), done},
	})
}

func TestThereIsRoomForTwelveSystems(t *testing.T) {
	mods := []api.Mod{all, {}}
	var steps []step
	for n := range api.MaxSystems {
		steps = append(steps, step{doSystem(system(0, 1, 0, more(0, n))), many(n + 1)})
	}
	steps = append(steps,
		step{doSystem(system(0, 0, 0)), refused(api.ErrMany)},
		step{doSystem(system(1, 0, 0)), refused(api.ErrMany)},
		step{doSystem(system(1, 1, 0)), refused(api.ErrMay)},
		step{doSystem(system(2, 1, 0)), refused(api.ErrNone)},
		step{doSystem(system(0, 1, 0, api.Act{})), refused(api.ErrKind)},
		step{doSpawn(1, 0), who(0, 1)},
		step{doTick(), many(12)},
		step{doAsk(0, 0, 0), found(66, being(0, 1))})
	if h := check(t, mods, steps); len(h.Systems) != api.MaxSystems {
		t.Errorf("%d systems", len(h.Systems))
	}
}

func TestTicks(t *testing.T) {
	mods := []api.Mod{all}
	h := check(t, mods, []step{
		{doTick(), done},
		{doSpawn(3, 5), who(0, 1)},
		{doSpawn(1, 7), who(1, 1)},
		{doSpawn(4, 1), who(2, 1)},
		{doTick(), done},
		{doAsk(0, 0, 0), found(12, being(0, 1), being(1, 1), being(2, 1))},
		{doSystem(system(0, 3, 0, add(0, 1))), many(1)},
		{doTick(), many(1)},
		{doAsk(0, 0, 0), found(17, being(0, 1), being(1, 1), being(2, 1))},
		{doSystem(system(0, 1, 0, more(0, 100))), many(2)}, // behind the first one
		{doSystem(system(0, 4, 0, more(2, 1))), many(3)},   // beside it
		{doTick(), many(2)},
		{doAsk(1, 0, 0), found(222, being(0, 1), being(1, 1))},
		{doAsk(4, 0, 2), found(2, being(2, 1))},
		{doSystem(system(0, 1, 2, kill())), many(4)}, // behind all
		{doSystem(system(0, 4, 0, put(5, 3))), many(5)},
		{doTick(), many(4)},
		{doAsk(0, 0, 5), found(3, being(0, 1), being(2, 1))},
		{doTick(), many(4)},
	})
	if got := told(h.Store); got != "{[{3 [{0 1}] [[325] [5]]} {36 [{2 1}] [[4] [3]]}] [1 1 1]}" {
		t.Error(got)
	}
}

// TestATickWithoutRoomIsRefused: the systems ahead of the one without room do
// nothing either.
func TestATickWithoutRoomIsRefused(t *testing.T) {
	steps := []step{
		{doSpawn(1, 0), who(0, 1)},
		{doSystem(system(0, 1, 0, more(0, 1))), many(1)},
		{doSystem(system(0, 0, 0, spawn(0, 0))), many(2)},
	}
	for range 5 {
		steps = append(steps, step{doTick(), many(2)})
	}
	steps = append(steps,
		step{doAsk(1, 0, 0), found(5, being(0, 1))},
		step{doTick(), refused(api.ErrMany)},
		step{doTick(), refused(api.ErrMany)},
		step{doAsk(1, 0, 0), found(5, being(0, 1))},
		step{doPut(0, 1, 1, 4), done})
	if h := check(t, []api.Mod{all}, steps); len(h.Store.Gens) != 32 {
		t.Errorf("%d numbers", len(h.Store.Gens))
	}
}

func TestAsk(t *testing.T) {
	check(t, nil, []step{
		{doAsk(0, 0, 0), done},
		{doSpawn(0, 9), who(0, 1)},
		{doSpawn(255, most), who(1, 1)},
		{doSpawn(129, -7), who(2, 1)},
		{doSpawn(128, most), who(3, 1)},
		{doPut(1, 1, 7, -most), done},
		{doAsk(0, 0, 0), found(most-7, being(0, 1), being(1, 1), being(2, 1), being(3, 1))},
		{doAsk(0, 0, 7), found(-7, being(0, 1), being(1, 1), being(2, 1), being(3, 1))},
		{doAsk(128, 0, 7), found(-7, being(1, 1), being(2, 1), being(3, 1))},
		{doAsk(128, 2, 7), found(most-7, being(2, 1), being(3, 1))},
		{doAsk(128, 2, 1), found(0, being(2, 1), being(3, 1))},
		{doAsk(0, 255, 7), found(0, being(0, 1))},
		{doAsk(255, 0, 3), found(most, being(1, 1))},
		{doAsk(255, 255, 3), done},
		{doAsk(1, 0, 0), found(most-7, being(1, 1), being(2, 1))},
		{doAsk(256, 0, 0), refused(api.ErrRange)},
		{doAsk(-1, 0, 0), refused(api.ErrRange)},
		{doAsk(0, 256, 0), refused(api.ErrRange)},
		{doAsk(0, -1, 0), refused(api.ErrRange)},
		{doAsk(0, 0, 8), refused(api.ErrRange)},
		{doAsk(0, 0, -1), refused(api.ErrRange)},
		{doAsk(math.MaxInt, 0, 0), refused(api.ErrRange)},
		{doAsk(0, odd, 0), refused(api.ErrRange)},
		{doAsk(0, 0, 64), refused(api.ErrRange)},
		{doKill(1, 1), done},
		{doSpawn(128, 1), who(1, 2)},
		{doAsk(128, 0, 7), found(most-6, being(1, 2), being(2, 1), being(3, 1))},
	})
}

func TestThereIsNoSuchKind(t *testing.T) {
	for _, kind := range []int{0, 8, 9, -1, 77, math.MaxInt, math.MinInt} {
		check(t, []api.Mod{all}, []step{
			{bare(kind), refused(api.ErrKind)},
			{doSpawn(3, 2), who(0, 1)},
			{doSystem(system(0, 1, 0, more(0, 2))), many(1)},
			{bare(kind), refused(api.ErrKind)},
			{api.Do{Kind: kind, Has: 1, Being: being(0, 1)}, refused(api.ErrKind)},
			{doTick(), many(1)},
			{doAsk(1, 0, 0), found(4, being(0, 1))},
		})
	}
}

// TestTheSumMayBeNoValue: sixty of the greatest values are one sum.
func TestTheSumMayBeNoValue(t *testing.T) {
	for _, n := range []int{most, -most} {
		l := append(slices.Repeat(do(doSpawn(128, n)), 60), doAsk(0, 0, 7), doAsk(0, 0, 6))
		_, came := played(t, nil, l)
		if came[60].N != 60*n || len(came[60].Beings) != 60 || came[61].N != 0 {
			t.Errorf("%v", came[60:])
		}
	}
}
