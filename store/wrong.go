package store

import (
	"broodhouse/api"
	"broodhouse/parts"
)

// wrongTable tells what is wrong with the table of that number, where it
// stands. Once it tells nothing, the table's columns are as long as they need
// to be, and can be read without a look at their length.
func wrongTable(tables []api.Table, at int) api.Errno {
	table := tables[at]
	if !parts.Set(table.Has) {
		return api.ErrRange
	}
	if len(table.Beings) == 0 || len(table.Columns) != parts.Count(table.Has) {
		return api.ErrMany
	}
	for _, column := range table.Columns {
		if err := wrongColumn(column, len(table.Beings)); err != api.OK {
			return err
		}
	}
	if !rise(table.Beings) || at > 0 && tables[at-1].Has >= table.Has {
		return api.ErrForm
	}
	return api.OK
}

// wrongColumn tells what is wrong with the column of that many beings.
func wrongColumn(column []int, beings int) api.Errno {
	if len(column) != beings {
		return api.ErrMany
	}
	for _, n := range column {
		if !parts.Value(n) {
			return api.ErrRange
		}
	}
	return api.OK
}

// rise tells whether each being has a greater Index than the one ahead.
func rise(beings []api.Being) bool {
	for at := 1; at < len(beings); at++ {
		if beings[at-1].Index >= beings[at].Index {
			return false
		}
	}
	return true
}
