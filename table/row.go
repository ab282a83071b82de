package table

import (
	"milepost/api"
	"milepost/prefix"
)

// Row is a route, and what its router knows of it beside.
type Row struct {
	api.Route
	age     int
	changed bool
}

// AsIs is the route as it is.
func (r Row) AsIs() api.Route { return r.Route }

func ownRow(p api.Prefix) Row {
	return fresh(api.Route{Prefix: p, Metric: ownMetric, From: api.Own})
}

func fresh(route api.Route) Row {
	return Row{Route: route, changed: true}
}

func (r Row) isOwn() bool { return r.From == api.Own }

func (r Row) isDying() bool { return r.Metric == api.Infinity }

func (r Row) compare(p api.Prefix) int { return prefix.Compare(r.Prefix, p) }

// heard is the row behind news of its prefix.
func (r Row) heard(news api.Route) Row {
	switch {
	case r.isOwn():
		return r
	case r.From == news.From:
		return r.retold(news)
	case r.isWorseThan(news):
		return fresh(news)
	}
	return r
}

// retold is the row behind news from the neighbour by which it is.
func (r Row) retold(news api.Route) Row {
	if news.Metric == api.Infinity {
		return r.lost()
	}
	return Row{Route: news, changed: r.changed || r.Route != news}
}

func (r Row) isWorseThan(news api.Route) bool {
	if news.Metric == r.Metric {
		return !r.isDying() && r.age >= api.Stale
	}
	return news.Metric < r.Metric
}

// lost is the row when its neighbour does not reach it any more.
func (r Row) lost() Row {
	// One that is dying already must not be made younger, else it would never be forgotten.
	if r.isDying() {
		return r
	}
	r.Metric = api.Infinity
	r.age = 0
	r.changed = true
	return r
}

// older is the row one tick later.
func (r Row) older() Row {
	if r.isOwn() {
		return r
	}
	r.age++
	if r.age == api.Timeout {
		return r.lost()
	}
	return r
}

func (r Row) isForgotten() bool { return r.isDying() && r.age == api.Garbage }

func (r Row) isTold() bool { return !r.changed }

// told is the row when all neighbours have been told how it is.
func (r Row) told() Row {
	r.changed = false
	return r
}
