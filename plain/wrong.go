package plain

import (
	"broodhouse/api"
	"broodhouse/parts"
)

// Wrong tells what is wrong with w first, and at which Gen or row.
func Wrong(w api.World) api.Fault {
	if len(w.Gens) > api.MaxBeing {
		return api.Fault{Err: api.ErrMany}
	}
	for at, gen := range w.Gens {
		if gen < 1 || gen > api.MaxGen {
			return api.Fault{Err: api.ErrRange, At: at}
		}
	}
	for at := range w.Rows {
		if err := wrongRow(w, at); err != api.OK {
			return api.Fault{Err: err, At: at}
		}
	}
	return api.Fault{}
}

// wrongRow tells what is wrong with the row of that number, where it stands.
func wrongRow(w api.World, at int) api.Errno {
	row := w.Rows[at]
	index := row.Being.Index
	if !rightVals(row) || index < 0 || index >= len(w.Gens) {
		return api.ErrRange
	}
	if at > 0 && w.Rows[at-1].Being.Index >= index {
		return api.ErrForm
	}
	if row.Being.Gen != w.Gens[index] {
		return api.ErrFit
	}
	return api.OK
}

// rightVals tells whether row has a set of parts, and values that go with it.
func rightVals(row api.Row) bool {
	if !parts.Set(row.Has) {
		return false
	}
	for part, n := range row.Vals {
		if !parts.Value(n) || n != 0 && !parts.Has(row.Has, part) {
			return false
		}
	}
	return true
}
