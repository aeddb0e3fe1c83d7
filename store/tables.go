package store

import (
	"cmp"
	"slices"

	"broodhouse/api"
	"broodhouse/parts"
	"broodhouse/plain"
)

// together tells the world of s, or what is wrong with s. Both come of the
// same rows: that the tables fit one another is seen only once they are rows.
func together(s api.Store) (api.World, api.Fault) {
	var rows []api.Row
	for at, table := range s.Tables {
		if err := wrongTable(s.Tables, at); err != api.OK {
			return api.World{}, api.Fault{Err: err, At: at}
		}
		rows = addRows(rows, table)
	}
	// Stable, since a number that two tables have is told by the first one's row.
	slices.SortStableFunc(rows, func(a, b api.Row) int {
		return cmp.Compare(a.Being.Index, b.Being.Index)
	})
	w := api.World{Rows: rows, Gens: copied(s.Gens)}
	if fault := plain.Wrong(w); fault.Err != api.OK {
		return api.World{}, api.Fault{Err: fault.Err}
	}
	return w, api.Fault{}
}

// addRows answers rows with those of table, with which nothing is wrong.
func addRows(rows []api.Row, table api.Table) []api.Row {
	held := parts.List(table.Has)
	for at, b := range table.Beings {
		row := api.Row{Being: b, Has: table.Has}
		for column, part := range held {
			row.Vals[part] = table.Columns[column][at]
		}
		rows = append(rows, row)
	}
	return rows
}

// apart tells the store of w, which is right.
func apart(w api.World) api.Store {
	out := filling{api.Store{Gens: copied(w.Gens)}}
	for _, row := range w.Rows {
		out.take(row)
	}
	return out.Store
}

// filling is a store that rows come into, one behind the other: it is a right
// store of those that came, as long as they come rising.
type filling struct{ api.Store }

// take has the being of row stand last in the table of its parts.
func (f *filling) take(row api.Row) {
	// A statement of its own: Go leaves open whether Tables is read ahead of a
	// call in the same one or behind it, and this call may lay another list.
	at := f.tableOf(row.Has)
	table := &f.Tables[at]
	table.Beings = append(table.Beings, row.Being)
	for column, part := range parts.List(row.Has) {
		table.Columns[column] = append(table.Columns[column], row.Vals[part])
	}
}

// tableOf tells the number of has's table, which is laid if there is none.
func (f *filling) tableOf(has int) int {
	at, there := slices.BinarySearchFunc(f.Tables, has, func(table api.Table, has int) int {
		return cmp.Compare(table.Has, has)
	})
	if !there {
		laid := api.Table{Has: has, Columns: make([][]int, parts.Count(has))}
		f.Tables = slices.Insert(f.Tables, at, laid)
	}
	return at
}
