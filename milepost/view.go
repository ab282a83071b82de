package milepost

import (
	"milepost/api"
	"milepost/table"
)

// View is how everything stood.
type View struct {
	table table.Table
}

// Routes tells all routes (P9).
func (v *View) Routes() []api.Route { return table.Write(v.table, table.Row.AsIs) }

// Lookup tells by which route an address is reached (P9).
func (v *View) Lookup(addr uint32) (api.Route, error) {
	route, ok := v.table.Find(addr)
	if !ok {
		return api.Route{}, api.ErrNone
	}
	return route, nil
}
