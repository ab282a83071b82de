// Package tell: what neighbours are told.
package tell

import (
	"milepost/api"
	"milepost/packet"
	"milepost/table"
)

// listener is a neighbour, by its number.
type listener int

// To is the packets that tell a neighbour of all routes of a table.
func To(neighbour int, t table.Table) []api.Out {
	entries := table.Write(t, listener(neighbour).hears)
	var outs []api.Out
	for _, data := range packet.Responses(entries) {
		outs = append(outs, api.Out{To: neighbour, Data: data})
	}
	return outs
}

// hears is a route as it is told to the neighbour.
func (l listener) hears(r table.Row) api.Entry {
	metric := r.Metric
	// Else the neighbour might take the way back through itself.
	if r.From == int(l) {
		metric = api.Infinity
	}
	return api.Entry{Prefix: r.Prefix, Tag: r.Tag, Metric: metric}
}
