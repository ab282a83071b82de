package milepost_test

import (
	"math"
	"slices"
	"testing"

	"milepost/api"
	"milepost/milepost"
)

func TestP6NoRouteYet(t *testing.T) {
	for cost := 1; cost <= 15; cost++ {
		for metric := 1; metric <= 16; metric++ {
			r := newRouter(t, []int{8, cost}, net8(1))
			hear(t, r, 1, entry(20, 7, metric))
			want := []api.Route{ownRoute(1)}
			if metric+cost < 16 {
				want = append(want, route(20, 7, metric+cost, 1))
			}
			wantRoutes(t, "cost and metric", r.View(), want...)
		}
	}
}

func TestP6NewRouteIsOfAgeNought(t *testing.T) {
	r := newRouter(t, []int{1}, net8(1))
	tick(t, r, 100)
	hear(t, r, 0, entry(20, 65535, 14))
	tick(t, r, 179)
	wantRoutes(t, "179 ticks old", r.View(), ownRoute(1), route(20, 65535, 15, 0))
	tick(t, r, 1)
	wantRoutes(t, "180 ticks old", r.View(), ownRoute(1), route(20, 65535, 16, 0))
}

func TestP6OwnStaysAsItIs(t *testing.T) {
	r := newRouter(t, []int{1, 15}, net8(1))
	for metric := 1; metric <= 16; metric++ {
		hear(t, r, 0, entry(1, 9, metric))
		hear(t, r, 1, entry(1, 9, metric))
		tick(t, r, 90)
		wantRoutes(t, "its own", r.View(), ownRoute(1))
	}
}

func TestP6SameNeighbourBelowInfinity(t *testing.T) {
	for _, c := range []struct {
		why         string
		tag, metric int
	}{
		{"nearer", 7, 2}, {"farther", 7, 9}, {"as near", 7, 4}, {"another tag", 8, 4}, {"no tag", 0, 4}, {"all but too far", 9, 14},
	} {
		r := newRouter(t, []int{1})
		hear(t, r, 0, entry(20, 7, 4))
		tick(t, r, 179)
		hear(t, r, 0, entry(20, c.tag, c.metric))
		wantRoutes(t, c.why, r.View(), route(20, c.tag, c.metric+1, 0))
		tick(t, r, 179)
		wantRoutes(t, c.why+", its age was nought", r.View(), route(20, c.tag, c.metric+1, 0))
		tick(t, r, 1)
		wantRoutes(t, c.why+", 180 ticks later", r.View(), route(20, c.tag, 16, 0))
	}
}

func TestP6SameNeighbourAtInfinity(t *testing.T) {
	for _, metric := range []int{15, 16} {
		r := newRouter(t, []int{1}, net8(1))
		hear(t, r, 0, entry(20, 7, 4))
		tick(t, r, 179)
		hear(t, r, 0, entry(20, 9, metric))
		dying := []api.Route{route(20, 7, 16, 0)}
		wantRoutes(t, "dying, the tag stays", r.View(), ownRoute(1), dying[0])
		tick(t, r, 50)
		hear(t, r, 0, entry(20, 9, metric))
		wantRoutes(t, "dying already", r.View(), ownRoute(1), dying[0])
		wantForgottenAfter(t, r, 70, dying, []api.Route{ownRoute(1)})
	}
}

func TestP6SameNeighbourRevives(t *testing.T) {
	r := newRouter(t, []int{1})
	hear(t, r, 0, entry(20, 7, 4))
	hear(t, r, 0, entry(20, 7, 16))
	tick(t, r, 119)
	hear(t, r, 0, entry(20, 8, 14))
	wantRoutes(t, "told of again", r.View(), route(20, 8, 15, 0))
	tick(t, r, 179)
	wantRoutes(t, "its age was nought", r.View(), route(20, 8, 15, 0))
}

func TestP6OtherNeighbour(t *testing.T) {
	for _, c := range []struct {
		why         string
		age, metric int
		taken       bool
	}{
		{"farther, young", 0, 5, false},
		{"farther, old", 179, 5, false},
		{"as near, young", 0, 4, false},
		{"as near, 89 old", 89, 4, false},
		{"as near, 90 old", 90, 4, true},
		{"as near, 91 old", 91, 4, true},
		{"as near, 179 old", 179, 4, true},
		{"nearer, young", 0, 3, true},
		{"nearer, 89 old", 89, 1, true},
		{"too far", 179, 15, false},
		{"not reached", 179, 16, false},
	} {
		r := newRouter(t, []int{1, 1})
		hear(t, r, 0, entry(20, 7, 4))
		tick(t, r, c.age)
		hear(t, r, 1, entry(20, 8, c.metric))
		if !c.taken {
			wantRoutes(t, c.why, r.View(), route(20, 7, 5, 0))
			tick(t, r, 180-c.age)
			wantRoutes(t, c.why+", its age stayed", r.View(), route(20, 7, 16, 0))
			continue
		}
		wantRoutes(t, c.why, r.View(), route(20, 8, c.metric+1, 1))
		tick(t, r, 179)
		wantRoutes(t, c.why+", its age was nought", r.View(), route(20, 8, c.metric+1, 1))
		tick(t, r, 1)
		wantRoutes(t, c.why+", 180 ticks later", r.View(), route(20, 8, 16, 1))
	}
}

func TestP6OtherNeighbourOfWhatIsDying(t *testing.T) {
	for _, age := range []int{0, 89, 90, 119} {
		for _, metric := range []int{1, 14, 15, 16} {
			r := newRouter(t, []int{1, 1})
			hear(t, r, 0, entry(20, 7, 4))
			down(t, r, 0)
			tick(t, r, age)
			hear(t, r, 1, entry(20, 8, metric))
			if metric+1 < 16 {
				wantRoutes(t, "by the other one now", r.View(), route(20, 8, metric+1, 1))
				continue
			}
			// As far as before, and old: but 16 is not below 16.
			wantForgottenAfter(t, r, 120-age, []api.Route{route(20, 7, 16, 0)}, nil)
		}
	}
}

// The cost is that of the neighbour who tells, not of the one by which the route is.
func TestP6CostOfWhoTells(t *testing.T) {
	r := newRouter(t, []int{1, 5, 15})
	hear(t, r, 0, entry(20, 0, 7))
	hear(t, r, 1, entry(20, 1, 3))
	wantRoutes(t, "8 against 8", r.View(), route(20, 0, 8, 0))
	hear(t, r, 1, entry(20, 1, 2))
	wantRoutes(t, "7 against 8", r.View(), route(20, 1, 7, 1))
	hear(t, r, 2, entry(20, 2, 1), entry(21, 2, 1))
	wantRoutes(t, "16 against 7", r.View(), route(20, 1, 7, 1))
	hear(t, r, 0, entry(20, 3, 5))
	wantRoutes(t, "6 against 7", r.View(), route(20, 3, 6, 0))
}

func TestP6EntriesOneByOne(t *testing.T) {
	r := newRouter(t, []int{1, 1}, net8(1))
	hear(t, r, 0, entry(20, 1, 4), entry(20, 2, 9))
	wantRoutes(t, "the later one holds", r.View(), ownRoute(1), route(20, 2, 10, 0))
	hear(t, r, 0, entry(20, 3, 16), entry(20, 4, 5))
	wantRoutes(t, "dying, then told of", r.View(), ownRoute(1), route(20, 4, 6, 0))
	hear(t, r, 1, entry(20, 5, 2), entry(20, 6, 16))
	wantRoutes(t, "taken over, then dying", r.View(), ownRoute(1), route(20, 5, 16, 1))
	hear(t, r, 0, entry(30, 0, 1), entry(19, 0, 1), entry(25, 0, 1), entry(1, 0, 1))
	wantRoutes(t, "in order", r.View(), ownRoute(1),
		route(19, 0, 2, 0), route(20, 5, 16, 1), route(25, 0, 2, 0), route(30, 0, 2, 0))
}

func TestP6OneAddressSeveralLengths(t *testing.T) {
	r := newRouter(t, []int{1})
	var entries []api.Entry
	var want []api.Route
	for length := 8; length <= 32; length++ {
		p := api.Prefix{Addr: 0x0a000000, Len: length}
		entries = append(entries, api.Entry{Prefix: p, Tag: length, Metric: 1 + length%14})
		want = append(want, api.Route{Prefix: p, Tag: length, Metric: 2 + length%14, From: 0})
	}
	slices.Reverse(entries)
	hear(t, r, 0, entries...)
	wantRoutes(t, "each length is a prefix of its own", r.View(), want...)
}

// full is a router with 60 routes, 20 of its own: 1 to 20, and 21 to 60 by neighbour 0.
func full(t *testing.T) *milepost.Router {
	t.Helper()
	r := newRouter(t, []int{1, 1}, nets8(1, 20)...)
	for n := 21; n <= 60; n++ {
		hear(t, r, 0, entry(n, 0, 3))
	}
	if n := len(r.View().Routes()); n != 60 {
		t.Fatalf("%d routes, want 60", n)
	}
	return r
}

func TestP6SixtyRoutes(t *testing.T) {
	r := full(t)
	before := r.View().Routes()
	hear(t, r, 0, entry(0, 0, 1), entry(61, 0, 1))
	hear(t, r, 1, entry(0, 0, 1), entry(200, 0, 1))
	wantRoutes(t, "no room", r.View(), before...)
	hear(t, r, 1, entry(61, 0, 1), entry(30, 5, 1), entry(61, 0, 1))
	before[29] = route(30, 5, 2, 1)
	wantRoutes(t, "what is there is taken over", r.View(), before...)
	hear(t, r, 0, entry(21, 0, 16), entry(61, 0, 1))
	before[20].Metric = 16
	wantRoutes(t, "what is dying takes room", r.View(), before...)
}

func TestP6RoomAgain(t *testing.T) {
	r := full(t)
	hear(t, r, 0, entry(21, 0, 16))
	tick(t, r, 119)
	hear(t, r, 1, entry(61, 0, 1))
	if n := len(r.View().Routes()); n != 60 {
		t.Errorf("119 ticks: %d routes", n)
	}
	tick(t, r, 1)
	hear(t, r, 1, entry(61, 0, 1), entry(62, 0, 1))
	l := r.View().Routes()
	if len(l) != 60 || l[20] != route(22, 0, 4, 0) || l[59] != route(61, 0, 2, 1) {
		t.Errorf("120 ticks: %v", l)
	}
}

func TestP6FewerThanSixtyInOnePacket(t *testing.T) {
	r := newRouter(t, []int{1}, nets8(1, 20)...)
	for n := 21; n <= 58; n++ {
		hear(t, r, 0, entry(n, 0, 3))
	}
	hear(t, r, 0, entry(70, 0, 15), entry(71, 0, 1), entry(72, 0, 16), entry(73, 0, 1), entry(60, 0, 1))
	l := r.View().Routes()
	if len(l) != 60 || l[58] != route(71, 0, 2, 0) || l[59] != route(73, 0, 2, 0) {
		t.Errorf("Routes = %v", l)
	}
}

func TestP6NoSuchNeighbour(t *testing.T) {
	r := newRouter(t, []int{1, 1}, net8(1))
	hear(t, r, 0, entry(20, 0, 1))
	before := r.View().Routes()
	for _, from := range []int{-1, 2, 3, 8, math.MinInt, math.MaxInt, 1 << 32} {
		for _, data := range []string{written(t, entry(20, 0, 16), entry(21, 0, 1)), askAll, "", "nonsense", responseHead} {
			out, err := r.Receive(from, data)
			if len(out) != 0 || err != api.ErrNeighbour {
				t.Errorf("Receive(%d, %x) = %x, %v", from, data, out, err)
			}
		}
	}
	wantRoutes(t, "nothing changed", r.View(), before...)
	out, err := newRouter(t, nil).Receive(0, askAll)
	if len(out) != 0 || err != api.ErrNeighbour {
		t.Errorf("no neighbours: Receive(0) = %x, %v", out, err)
	}
}

func TestP6ErrorOfDecode(t *testing.T) {
	fine := written(t, entry(20, 0, 16), entry(21, 0, 1))
	for _, c := range []struct {
		data  string
		errno api.Errno
		entry int
	}{
		{"", api.ErrSize, -1},
		{fine[:len(fine)-1], api.ErrSize, -1},
		{fine + "\x00", api.ErrSize, -1},
		{responseHead, api.ErrSize, -1},
		{"\x03" + fine[1:], api.ErrHead, -1},
		{requestHead + goodText, api.ErrHead, -1},
		{askAll + goodText, api.ErrHead, -1},
		{fine + raw{family: 3, mask: 1, hop: 1}.bytes(), api.ErrFamily, 2},
		{fine + raw{family: 2, mask: 1, hop: 1}.bytes(), api.ErrPrefix, 2},
		{fine + raw{family: 2, hop: 1}.bytes(), api.ErrHop, 2},
		{fine + raw{family: 2}.bytes(), api.ErrMetric, 2},
		{fine + raw{family: 2, metric: 17}.bytes() + raw{}.bytes(), api.ErrMetric, 2},
	} {
		r := newRouter(t, []int{1, 1}, net8(1))
		hear(t, r, 0, entry(20, 3, 1))
		out, err := r.Receive(0, c.data)
		wantFault(t, "Receive", err, c.errno, c.entry)
		if len(out) != 0 {
			t.Errorf("Receive(%x) = %x beside an error", c.data, out)
		}
		wantRoutes(t, "nothing of a packet that is none", r.View(), ownRoute(1), route(20, 3, 2, 0))
	}
}
