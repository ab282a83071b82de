// Package table: the routes of a router, and what becomes of them.
package table

import (
	"slices"

	"milepost/api"
	"milepost/prefix"
)

const ownMetric = 1

// Table is routes, in the order of their prefixes. It never changes: what happens makes a new one, so that a view may keep it.
type Table struct {
	rows []Row
}

// Start is the table of a router that knows its own prefixes alone.
func Start(own []api.Prefix) Table {
	rows := make([]Row, 0, len(own))
	for _, p := range slices.SortedFunc(slices.Values(own), prefix.Compare) {
		rows = append(rows, ownRow(p))
	}
	return Table{rows}
}

// Heard is the table behind what a neighbour told.
func (t Table) Heard(from, cost int, entries []api.Entry) Table {
	rows := slices.Clone(t.rows)
	for _, e := range entries {
		rows = take(rows, newsOf(e, from, cost))
	}
	return Table{rows}
}

// newsOf is the route that an entry offers.
func newsOf(e api.Entry, from, cost int) api.Route {
	metric := min(e.Metric+cost, api.Infinity)
	return api.Route{Prefix: e.Prefix, Tag: e.Tag, Metric: metric, From: from}
}

// take writes into rows, which must be the caller's alone.
func take(rows []Row, news api.Route) []Row {
	at, found := slices.BinarySearchFunc(rows, news.Prefix, Row.compare)
	switch {
	case found:
		rows[at] = rows[at].heard(news)
	case news.Metric < api.Infinity && len(rows) < api.MaxRoutes:
		rows = slices.Insert(rows, at, fresh(news))
	}
	return rows
}

// Later is the table so many ticks later.
func (t Table) Later(ticks int) Table {
	rows := slices.Clone(t.rows)
	for range ticks {
		for i, r := range rows {
			rows[i] = r.older()
		}
		rows = slices.DeleteFunc(rows, Row.isForgotten)
	}
	return Table{rows}
}

// Lost is the table when a neighbour is reached no more.
func (t Table) Lost(neighbour int) Table {
	rows := slices.Clone(t.rows)
	for i, r := range rows {
		if r.From == neighbour {
			rows[i] = r.lost()
		}
	}
	return Table{rows}
}

// All is the table with all its routes.
func (t Table) All() Table { return t }

// Changed is the table with its changed routes alone.
func (t Table) Changed() Table {
	return Table{slices.DeleteFunc(slices.Clone(t.rows), Row.isTold)}
}

// Told is the table when all neighbours have been told how it is.
func (t Table) Told() Table { return Table{Write(t, Row.told)} }

// Find is the route by which an address is reached; false, if there is none.
func (t Table) Find(addr uint32) (api.Route, bool) {
	// Of prefixes that have one address, the longer one stands behind: from the end, the longest is met first.
	for _, r := range slices.Backward(t.rows) {
		if !r.isDying() && prefix.Has(r.Prefix, addr) {
			return r.Route, true
		}
	}
	return api.Route{}, false
}

// Write tells of each route, in order, in the way that is handed over.
func Write[T any](t Table, how func(Row) T) []T {
	written := make([]T, 0, len(t.rows))
	for _, r := range t.rows {
		written = append(written, how(r))
	}
	return written
}
