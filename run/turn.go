package run

import (
	"broodhouse/api"
	"broodhouse/parts"
	"broodhouse/plain"
)

// turn answers w once the acts of a right system are done with b, which is
// there and meets the system's filter.
func turn(w api.World, b api.Being, acts []api.Act) (api.World, api.Errno) {
	for _, a := range acts {
		next, err := act(w, b, a)
		if err != api.OK {
			return api.World{}, err
		}
		w = next
		if a.Kind == api.Kill {
			break
		}
	}
	return w, api.OK
}

// act answers w once a is done with b.
func act(w api.World, b api.Being, a api.Act) (api.World, api.Errno) {
	switch a.Kind {
	case api.Kill:
		return plain.Kill(w, b)
	case api.Spawn:
		next, _, err := plain.Spawn(w, a.Part, a.N)
		return next, err
	case api.Drop:
		return drop(w, b, a.Part)
	}
	return plain.Put(w, b, a.Part, parts.Clip(amount(w, b, a)))
}

// drop answers w with b having part no more, if it had it: what plain refuses
// is nothing wrong here.
func drop(w api.World, b api.Being, part int) (api.World, api.Errno) {
	if _, had := plain.Get(w, b, part); !had {
		return w, api.OK
	}
	return plain.Drop(w, b, part)
}

// amount tells what b's part comes to by a, which puts, copies or adds; it
// may be too much for a value.
func amount(w api.World, b api.Being, a api.Act) int {
	is := func(part int) int {
		n, _ := plain.Get(w, b, part)
		return n
	}
	switch a.Kind {
	case api.Copy:
		return is(a.From)
	case api.Add:
		return is(a.Part) + is(a.From)
	case api.More:
		return is(a.Part) + a.N
	}
	return a.N
}
