package house

import (
	"broodhouse/api"
	"broodhouse/batch"
	"broodhouse/parts"
	"broodhouse/plain"
	"broodhouse/rule"
	"broodhouse/run"
	"broodhouse/store"
)

// going is a house that goes on, and what came of each thing so far. Its store
// is right at all times, and its systems are right, few enough, and those of
// its mods: whatever would leave it otherwise is refused.
type going struct {
	api.House
	came []api.Answer
}

// do does d, or refuses it, and tells what came of it.
func (g *going) do(d api.Do) api.Answer {
	switch d.Kind {
	case api.DoSpawn:
		return g.spawn(d.Has, d.N)
	case api.DoKill:
		return g.become(store.Kill(g.Store, d.Being))
	case api.DoPut:
		return g.become(store.Put(g.Store, d.Being, d.Part, d.N))
	case api.DoDrop:
		return g.become(store.Drop(g.Store, d.Being, d.Part))
	case api.DoSystem:
		return g.join(d.System)
	case api.DoTick:
		return g.tick()
	case api.DoAsk:
		return g.ask(d.Filter, d.Part)
	}
	return api.Answer{Err: api.ErrKind}
}

// become has the store be s, unless err says that there is no such one.
func (g *going) become(s api.Store, err api.Errno) api.Answer {
	if err != api.OK {
		return api.Answer{Err: err}
	}
	g.Store = s
	return api.Answer{}
}

// spawn has the next being come, and tells who it is.
func (g *going) spawn(has, n int) api.Answer {
	s, who, err := store.Spawn(g.Store, has, n)
	out := g.become(s, err)
	out.Being = who
	return out
}

// join has x come behind the systems, and tells how many there are.
func (g *going) join(x api.System) api.Answer {
	if err := g.refuses(x); err != api.OK {
		return api.Answer{Err: err}
	}
	// The house is answered, and the acts that came in stay the caller's.
	x.Acts = copied(x.Acts)
	g.Systems = append(g.Systems, x)
	return api.Answer{N: len(g.Systems)}
}

// refuses tells why x may not come; OK, if it may.
func (g *going) refuses(x api.System) api.Errno {
	if fault := rule.Wrong(x); fault.Err != api.OK {
		return fault.Err
	}
	if x.Mod >= len(g.Mods) {
		return api.ErrNone
	}
	if !rule.May(g.Mods[x.Mod], x) {
		return api.ErrMay
	}
	if len(g.Systems) >= api.MaxSystems {
		return api.ErrMany
	}
	return api.OK
}

// tick runs all systems, and tells how many batches they are. Nothing can be
// wrong with them when batches are made: who came in was right.
func (g *going) tick() api.Answer {
	batches, _ := batch.Make(g.Systems)
	var l []api.System
	for _, number := range batch.Order(batches) {
		l = append(l, g.Systems[number])
	}
	s, fault := run.All(g.Store, l)
	out := g.become(s, fault.Err)
	if out.Err == api.OK {
		out.N = len(batches)
	}
	return out
}

// ask tells the beings that meet f, and the sum of their values of part.
func (g *going) ask(f api.Filter, part int) api.Answer {
	if !parts.Set(f.All) || !parts.Set(f.None) || !parts.Part(part) {
		return api.Answer{Err: api.ErrRange}
	}
	out := api.Answer{Beings: store.Match(g.Store, f)}
	w := store.World(g.Store)
	for _, b := range out.Beings {
		n, _ := plain.Get(w, b, part)
		out.N += n
	}
	return out
}
