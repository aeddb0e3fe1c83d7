package rule

import (
	"broodhouse/api"
	"broodhouse/parts"
)

// wrongAct tells what is wrong with a, which may read the parts of readable.
func wrongAct(a api.Act, readable int) api.Errno {
	switch {
	case a.Kind < api.Put || a.Kind > api.Spawn:
		return api.ErrKind
	case !inRange(a):
		return api.ErrRange
	case !within(reads(a), readable):
		return api.ErrFit
	}
	return api.OK
}

// inRange tells whether those fields that a's kind has are what they must be.
func inRange(a api.Act) bool {
	switch a.Kind {
	case api.Put, api.More:
		return parts.Part(a.Part) && parts.Value(a.N)
	case api.Copy, api.Add:
		return parts.Part(a.Part) && parts.Part(a.From)
	case api.Drop:
		return parts.Part(a.Part)
	case api.Spawn:
		return parts.Set(a.Part) && parts.Value(a.N)
	}
	return true
}

// readableAfter answers the parts of readable as they are once a was done.
func readableAfter(a api.Act, readable int) int {
	switch a.Kind {
	case api.Put, api.Copy:
		return parts.With(readable, a.Part)
	case api.Drop:
		return parts.Without(readable, a.Part)
	}
	return readable
}

// reads answers the parts that a reads.
func reads(a api.Act) int {
	switch a.Kind {
	case api.Copy:
		return parts.With(0, a.From)
	case api.Add:
		return parts.With(parts.With(0, a.From), a.Part)
	case api.More:
		return parts.With(0, a.Part)
	}
	return 0
}

// writes answers the parts that a writes.
func writes(a api.Act) int {
	switch a.Kind {
	case api.Put, api.Copy, api.Add, api.More, api.Drop:
		return parts.With(0, a.Part)
	case api.Spawn:
		return a.Part
	}
	return 0
}

// moves tells whether a being that has the parts of all may get, or lose, a
// part by a.
func moves(a api.Act, all int) bool {
	switch a.Kind {
	case api.Put, api.Copy:
		return !parts.Has(all, a.Part)
	case api.Drop:
		return true
	}
	return false
}
