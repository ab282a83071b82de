package milepost_test

import (
	"testing"

	"milepost/api"
	"milepost/milepost"
)

func TestP8DueOfItsOwn(t *testing.T) {
	r := newRouter(t, []int{1, 15}, net8(9), net8(3))
	wantDue(t, "its own behind New", r, 2, ownRoute(3), ownRoute(9))
	hear(t, r, 0, entry(3, 7, 1), entry(9, 7, 16))
	tick(t, r, 1000)
	down(t, r, 0)
	wantDue(t, "its own never change", r, 2)
}

func TestP8UpdateLeavesNothingDue(t *testing.T) {
	r := newRouter(t, []int{1, 1}, net8(1))
	hear(t, r, 0, entry(20, 7, 4))
	wantUpdate(t, "everything", r, 2)
	wantDue(t, "behind Update", r, 2)
	down(t, r, 0)
	wantUpdate(t, "everything again", r, 2)
	wantDue(t, "behind Update", r, 2)
}

// settled is a router with one route, 20.0.0.0/8 with tag 7 and metric 5 by neighbour 0, so many ticks old, and nothing due.
func settled(t *testing.T, age int) *milepost.Router {
	t.Helper()
	r := newRouter(t, []int{1, 1})
	hear(t, r, 0, entry(20, 7, 4))
	r.Due()
	tick(t, r, age)
	wantRoutes(t, "settled", r.View(), route(20, 7, 5, 0))
	wantDue(t, "settled", r, 2)
	return r
}

// dying is the same when it has been dying for so many ticks.
func dying(t *testing.T, age int) *milepost.Router {
	t.Helper()
	r := settled(t, 0)
	down(t, r, 0)
	r.Due()
	tick(t, r, age)
	wantRoutes(t, "dying", r.View(), route(20, 7, 16, 0))
	wantDue(t, "dying", r, 2)
	return r
}

func TestP8DueOfNewRoutes(t *testing.T) {
	r := settled(t, 0)
	hear(t, r, 1, entry(30, 3, 14), entry(31, 3, 15), entry(32, 3, 16))
	wantDue(t, "a new one, and two that are too far", r, 2, route(30, 3, 15, 1))
	// Each time the packet is the same, and nothing is new in it.
	hear(t, r, 1, entry(30, 3, 14), entry(31, 3, 15), entry(32, 3, 16))
	wantDue(t, "told of again", r, 2)
	sixty := full(t)
	sixty.Due()
	hear(t, sixty, 1, entry(61, 0, 1))
	wantDue(t, "no room", sixty, 2)
}

func TestP8DueBehindNewsFromTheSameNeighbour(t *testing.T) {
	for _, c := range []struct {
		why         string
		tag, metric int
		want        []api.Route
	}{
		{"nothing new", 7, 4, nil},
		{"nearer", 7, 3, []api.Route{route(20, 7, 4, 0)}},
		{"farther", 7, 14, []api.Route{route(20, 7, 15, 0)}},
		{"another tag", 8, 4, []api.Route{route(20, 8, 5, 0)}},
		{"another tag and metric", 0, 1, []api.Route{route(20, 0, 2, 0)}},
		{"too far", 8, 15, []api.Route{route(20, 7, 16, 0)}},
		{"not reached", 8, 16, []api.Route{route(20, 7, 16, 0)}},
	} {
		for _, age := range []int{0, 1, 90, 179} {
			r := settled(t, age)
			hear(t, r, 0, entry(20, c.tag, c.metric))
			wantDue(t, c.why, r, 2, c.want...)
		}
	}
}

func TestP8DueBehindNewsFromAnother(t *testing.T) {
	for _, c := range []struct {
		why         string
		age, metric int
		want        []api.Route
	}{
		{"farther", 179, 5, nil},
		{"as near, young", 0, 4, nil},
		{"as near, 89 old", 89, 4, nil},
		{"as near, 90 old", 90, 4, []api.Route{route(20, 8, 5, 1)}},
		{"as near, 179 old", 179, 4, []api.Route{route(20, 8, 5, 1)}},
		{"nearer", 0, 3, []api.Route{route(20, 8, 4, 1)}},
		{"not reached", 179, 16, nil},
	} {
		r := settled(t, c.age)
		hear(t, r, 1, entry(20, 8, c.metric))
		wantDue(t, c.why, r, 2, c.want...)
	}
}

func TestP8DueOfWhatIsDying(t *testing.T) {
	for _, age := range []int{0, 90, 119} {
		for _, c := range []struct {
			why               string
			from, tag, metric int
			want              []api.Route
		}{
			{"told so again", 0, 8, 16, nil},
			{"too far again", 0, 8, 15, nil},
			{"near again", 0, 7, 4, []api.Route{route(20, 7, 5, 0)}},
			{"near again, another tag", 0, 8, 14, []api.Route{route(20, 8, 15, 0)}},
			{"another one reaches it", 1, 8, 14, []api.Route{route(20, 8, 15, 1)}},
			{"another one reaches it not", 1, 8, 15, nil},
			{"another one tells so", 1, 8, 16, nil},
		} {
			r := dying(t, age)
			hear(t, r, c.from, entry(20, c.tag, c.metric))
			wantDue(t, c.why, r, 2, c.want...)
		}
	}
}

func TestP8DueBehindTicks(t *testing.T) {
	for _, age := range []int{0, 1, 90, 179} {
		r := settled(t, age)
		tick(t, r, 0)
		wantDue(t, "no tick", r, 2)
		tick(t, r, 179-age)
		wantDue(t, "179 ticks old", r, 2)
		tick(t, r, 1)
		wantDue(t, "180 ticks old", r, 2, route(20, 7, 16, 0))
		tick(t, r, 119)
		wantDue(t, "dying for 119 ticks", r, 2)
		tick(t, r, 1)
		wantDue(t, "forgotten", r, 2)
	}
	r := settled(t, 0)
	tick(t, r, 299)
	wantDue(t, "dying for long when it is asked", r, 2, route(20, 7, 16, 0))
	r = settled(t, 0)
	tick(t, r, 300)
	wantDue(t, "forgotten before it was told", r, 2)
}

func TestP8DueBehindDown(t *testing.T) {
	r := settled(t, 100)
	hear(t, r, 1, entry(30, 3, 4))
	wantDue(t, "by another one", r, 2, route(30, 3, 5, 1))
	down(t, r, 0)
	wantDue(t, "down", r, 2, route(20, 7, 16, 0))
	down(t, r, 0)
	wantDue(t, "dying already", r, 2)
	down(t, r, 1)
	wantDue(t, "the other one", r, 2, route(30, 3, 16, 1))
}

// What has changed stays so till it is told, whatever comes behind it.
func TestP8ChangedTillItIsTold(t *testing.T) {
	r := settled(t, 0)
	hear(t, r, 0, entry(20, 8, 4))
	hear(t, r, 0, entry(20, 8, 4))
	tick(t, r, 50)
	wantDue(t, "the same again", r, 2, route(20, 8, 5, 0))
	hear(t, r, 0, entry(20, 9, 4))
	hear(t, r, 0, entry(20, 8, 4))
	wantDue(t, "there and back", r, 2, route(20, 8, 5, 0))
	hear(t, r, 0, entry(20, 8, 16), entry(20, 9, 16))
	hear(t, r, 1, entry(20, 8, 16))
	down(t, r, 0)
	tick(t, r, 119)
	wantDue(t, "dying", r, 2, route(20, 8, 16, 0))
	hear(t, r, 1, entry(20, 1, 3))
	hear(t, r, 0, entry(20, 2, 9))
	wantDue(t, "what is worse leaves it changed", r, 2, route(20, 1, 4, 1))
}

func TestP8DueLeavesTheOthers(t *testing.T) {
	r := newRouter(t, []int{1, 1}, net8(1))
	hear(t, r, 0, entry(20, 7, 1), entry(21, 7, 2), entry(22, 7, 3))
	r.Due()
	tick(t, r, 60)
	hear(t, r, 0, entry(21, 8, 2))
	wantDue(t, "one of four", r, 2, route(21, 8, 3, 0))
	wantRoutes(t, "the others stay", r.View(), ownRoute(1), route(20, 7, 2, 0), route(21, 8, 3, 0), route(22, 7, 4, 0))
	tick(t, r, 119)
	wantDue(t, "179 ticks old", r, 2)
	tick(t, r, 1)
	wantDue(t, "180 ticks old, but for one", r, 2, route(20, 7, 16, 0), route(22, 7, 16, 0))
	wantUpdate(t, "all of them", r, 2)
}

func TestP8RequestLeavesWhatIsDue(t *testing.T) {
	r := newRouter(t, []int{1, 1}, net8(1))
	hear(t, r, 0, entry(20, 7, 1))
	ask(t, r, 0)
	ask(t, r, 1)
	wantDue(t, "asked before", r, 2, ownRoute(1), route(20, 7, 2, 0))
	ask(t, r, 0)
	wantDue(t, "asked behind", r, 2)
}

// A call that answers an error makes nothing due, and leaves what is due.
func TestP8ErrorsLeaveWhatIsDue(t *testing.T) {
	wrong := func(r *milepost.Router) {
		r.Receive(2, written(t, entry(20, 9, 9)))
		r.Receive(-1, askAll)
		r.Receive(0, written(t, entry(20, 9, 9))+raw{}.bytes())
		r.Tick(-1)
		r.Tick(1001)
		r.Down(-1)
		r.Down(2)
	}
	r := settled(t, 179)
	wrong(r)
	wantDue(t, "nothing was due", r, 2)
	hear(t, r, 1, entry(30, 3, 4))
	wrong(r)
	wantDue(t, "one was due", r, 2, route(30, 3, 5, 1))
}

func TestP8DueInSeveralPackets(t *testing.T) {
	r := full(t)
	wantDue(t, "all 60", r, 2, r.View().Routes()...)
	down(t, r, 0)
	wantDue(t, "40 that are dying", r, 2, r.View().Routes()[20:]...)
	for n := 60; n > 34; n-- {
		hear(t, r, 1, entry(n, n, 1))
	}
	wantDue(t, "26 that another one reaches", r, 2, r.View().Routes()[34:]...)
}

// What one router is told, another one is not.
func TestP2DueOfEachRouter(t *testing.T) {
	a, b := newRouter(t, []int{1}, net8(1)), newRouter(t, []int{1}, net8(1))
	wantDue(t, "one", a, 1, ownRoute(1))
	wantDue(t, "the other one", b, 1, ownRoute(1))
	hear(t, a, 0, entry(20, 0, 1))
	wantDue(t, "the other one", b, 1)
	wantDue(t, "one", a, 1, route(20, 0, 2, 0))
}
