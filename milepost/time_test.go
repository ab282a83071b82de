package milepost_test

import (
	"math"
	"testing"

	"milepost/api"
)

func TestP7Ages(t *testing.T) {
	r := newRouter(t, []int{1}, net8(1))
	hear(t, r, 0, entry(20, 5, 1))
	for n := 1; n <= 179; n++ {
		tick(t, r, 1)
		wantRoutes(t, "below 180", r.View(), ownRoute(1), route(20, 5, 2, 0))
	}
	for n := 180; n <= 299; n++ {
		tick(t, r, 1)
		wantRoutes(t, "dying", r.View(), ownRoute(1), route(20, 5, 16, 0))
	}
	tick(t, r, 1)
	wantRoutes(t, "forgotten", r.View(), ownRoute(1))
}

// So many ticks at once are as many ticks one by one, wherever the call begins.
func TestP7AtOnce(t *testing.T) {
	for _, first := range []int{0, 1, 89, 179, 180, 181, 298, 299, 300, 301, 1000} {
		for second := range 302 {
			r := newRouter(t, []int{1}, net8(1))
			hear(t, r, 0, entry(20, 5, 1))
			tick(t, r, first)
			tick(t, r, second)
			switch age := first + second; {
			case age < 180:
				wantRoutes(t, "alive", r.View(), ownRoute(1), route(20, 5, 2, 0))
			case age < 300:
				wantRoutes(t, "dying", r.View(), ownRoute(1), route(20, 5, 16, 0))
			default:
				wantRoutes(t, "forgotten", r.View(), ownRoute(1))
			}
		}
	}
}

func TestP7EachRouteHasItsAge(t *testing.T) {
	r := newRouter(t, []int{1, 1}, net8(25))
	for n := range 10 {
		hear(t, r, n%2, entry(20+2*n, n, 1+n))
		tick(t, r, 10)
	}
	tick(t, r, 80)
	l := r.View().Routes()
	if len(l) != 11 || l[0] != route(20, 0, 16, 0) || l[1] != route(22, 1, 3, 1) {
		t.Errorf("the first one is 180 old: %v", l)
	}
	tick(t, r, 120)
	l = r.View().Routes()
	if len(l) != 10 || l[0] != route(22, 1, 16, 1) || l[1] != route(24, 2, 16, 0) || l[2] != ownRoute(25) || l[9] != route(38, 9, 16, 1) {
		t.Errorf("the first one is forgotten: %v", l)
	}
}

func TestP7NoughtAndThousandTicks(t *testing.T) {
	r := newRouter(t, []int{1}, net8(1))
	hear(t, r, 0, entry(20, 5, 1))
	tick(t, r, 179)
	for range 1000 {
		tick(t, r, 0)
	}
	wantRoutes(t, "no ticks", r.View(), ownRoute(1), route(20, 5, 2, 0))
	tick(t, r, 1000)
	wantRoutes(t, "1000 ticks", r.View(), ownRoute(1))
	for range 100 {
		tick(t, r, 1000)
	}
	wantRoutes(t, "its own have no age", r.View(), ownRoute(1))
}

func TestP7WrongTicks(t *testing.T) {
	r := newRouter(t, []int{1}, net8(1))
	hear(t, r, 0, entry(20, 5, 1))
	tick(t, r, 179)
	for _, n := range []int{-1, 1001, -1000, 1 << 32, math.MinInt, math.MaxInt} {
		if err := r.Tick(n); err != api.ErrTicks {
			t.Errorf("Tick(%d) = %v", n, err)
		}
	}
	wantRoutes(t, "nothing changed", r.View(), ownRoute(1), route(20, 5, 2, 0))
	tick(t, r, 1)
	wantRoutes(t, "one tick alone", r.View(), ownRoute(1), route(20, 5, 16, 0))
}

func TestP7Down(t *testing.T) {
	r := newRouter(t, []int{1, 1}, net8(1))
	hear(t, r, 0, entry(20, 5, 1), entry(21, 6, 14))
	hear(t, r, 1, entry(22, 7, 1))
	tick(t, r, 100)
	down(t, r, 0)
	left := []api.Route{ownRoute(1), route(22, 7, 2, 1)}
	wantRoutes(t, "down", r.View(), left[0], route(20, 5, 16, 0), route(21, 6, 16, 0), left[1])
	hear(t, r, 1, entry(22, 7, 1))
	tick(t, r, 60)
	// What is dying is not made younger.
	down(t, r, 0)
	tick(t, r, 59)
	wantRoutes(t, "119 ticks later", r.View(), left[0], route(20, 5, 16, 0), route(21, 6, 16, 0), left[1])
	tick(t, r, 1)
	wantRoutes(t, "120 ticks later", r.View(), left...)
}

func TestP7DownAndHeardOfAgain(t *testing.T) {
	r := newRouter(t, []int{1, 1})
	down(t, r, 0)
	hear(t, r, 0, entry(20, 5, 1))
	wantRoutes(t, "who was down may tell", r.View(), route(20, 5, 2, 0))
	down(t, r, 0)
	hear(t, r, 0, entry(20, 6, 3))
	wantRoutes(t, "and again", r.View(), route(20, 6, 4, 0))
	down(t, r, 1)
	wantRoutes(t, "another one is down", r.View(), route(20, 6, 4, 0))
}

func TestP7DownOfNobody(t *testing.T) {
	r := newRouter(t, []int{1, 1}, net8(1))
	hear(t, r, 0, entry(20, 5, 1))
	hear(t, r, 1, entry(21, 5, 1))
	for _, n := range []int{-1, 2, 8, -2, 1 << 32, math.MinInt, math.MaxInt} {
		if err := r.Down(n); err != api.ErrNeighbour {
			t.Errorf("Down(%d) = %v", n, err)
		}
	}
	wantRoutes(t, "nothing changed", r.View(), ownRoute(1), route(20, 5, 2, 0), route(21, 5, 2, 1))
	if err := newRouter(t, nil, net8(1)).Down(0); err != api.ErrNeighbour {
		t.Errorf("no neighbours: Down(0) = %v", err)
	}
}
