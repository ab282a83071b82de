package milepost_test

import (
	"slices"
	"testing"

	"milepost/api"
	"milepost/milepost"
)

// net8 is the prefix n.0.0.0/8.
func net8(n int) api.Prefix { return api.Prefix{Addr: uint32(n) << 24, Len: 8} }

func nets8(from, count int) []api.Prefix {
	var l []api.Prefix
	for n := range count {
		l = append(l, net8(from+n))
	}
	return l
}

func entry(n, tag, metric int) api.Entry {
	return api.Entry{Prefix: net8(n), Tag: tag, Metric: metric}
}

func route(n, tag, metric, from int) api.Route {
	return api.Route{Prefix: net8(n), Tag: tag, Metric: metric, From: from}
}

func ownRoute(n int) api.Route { return route(n, 0, 1, api.Own) }

func newRouter(t *testing.T, costs []int, own ...api.Prefix) *milepost.Router {
	t.Helper()
	r, err := milepost.New(api.Config{Costs: costs, Own: own})
	if r == nil || err != nil {
		t.Fatalf("New(%v, %v) = %v, %v", costs, own, r, err)
	}
	return r
}

func written(t *testing.T, entries ...api.Entry) string {
	t.Helper()
	data, err := milepost.Encode(response(entries...))
	if err != nil {
		t.Fatalf("Encode(%v): %v", entries, err)
	}
	return data
}

// hear lets a router receive a Response, which is answered with nothing.
func hear(t *testing.T, r *milepost.Router, from int, entries ...api.Entry) {
	t.Helper()
	out, err := r.Receive(from, written(t, entries...))
	if len(out) != 0 || err != nil {
		t.Errorf("Receive(%d, %v) = %x, %v", from, entries, out, err)
	}
}

func tick(t *testing.T, r *milepost.Router, n int) {
	t.Helper()
	if err := r.Tick(n); err != nil {
		t.Errorf("Tick(%d) = %v", n, err)
	}
}

func down(t *testing.T, r *milepost.Router, neighbour int) {
	t.Helper()
	if err := r.Down(neighbour); err != nil {
		t.Errorf("Down(%d) = %v", neighbour, err)
	}
}

func wantRoutes(t *testing.T, why string, v *milepost.View, want ...api.Route) {
	t.Helper()
	if got := v.Routes(); !slices.Equal(got, want) {
		t.Errorf("%s: Routes = %v, want %v", why, got, want)
	}
}

// wantForgottenAfter asks for the age of what is dying, by how many ticks are left to it.
func wantForgottenAfter(t *testing.T, r *milepost.Router, ticks int, dying, rest []api.Route) {
	t.Helper()
	tick(t, r, ticks-1)
	wantRoutes(t, "one tick before it is forgotten", r.View(), append(slices.Clone(rest), dying...)...)
	tick(t, r, 1)
	wantRoutes(t, "forgotten", r.View(), rest...)
}
