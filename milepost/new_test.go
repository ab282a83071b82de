package milepost_test

import (
	"math"
	"slices"
	"testing"

	"milepost/api"
	"milepost/milepost"
)

func wantConfigError(t *testing.T, why string, c api.Config) {
	t.Helper()
	if r, err := milepost.New(c); r != nil || err != api.ErrConfig {
		t.Errorf("%s: New = %v, %v", why, r, err)
	}
}

func TestP5Costs(t *testing.T) {
	for cost := -1; cost <= 17; cost++ {
		for at := range 8 {
			costs := slices.Repeat([]int{15}, 8)
			costs[at] = cost
			if cost < 1 || cost > 15 {
				wantConfigError(t, "a cost that may not be", api.Config{Costs: costs})
				continue
			}
			newRouter(t, costs)
		}
	}
	for _, cost := range []int{math.MinInt, math.MaxInt, 1 << 32, 1<<32 + 1, 256 + 1} {
		wantConfigError(t, "a cost far off", api.Config{Costs: []int{cost}})
	}
}

func TestP5HowManyNeighbours(t *testing.T) {
	for n := range 9 {
		r := newRouter(t, slices.Repeat([]int{1}, n))
		for to := range n {
			down(t, r, to)
		}
		if err := r.Down(n); err != api.ErrNeighbour {
			t.Errorf("%d neighbours: Down(%d) = %v", n, n, err)
		}
	}
	for _, n := range []int{9, 10, 16, 256, 1000} {
		wantConfigError(t, "too many neighbours", api.Config{Costs: slices.Repeat([]int{1}, n)})
	}
}

func TestP5HowManyOwn(t *testing.T) {
	for n := range 21 {
		own := nets8(1, n)
		var want []api.Route
		for k := range n {
			want = append(want, ownRoute(1+k))
		}
		wantRoutes(t, "its own", newRouter(t, []int{1}, own...).View(), want...)
	}
	for _, n := range []int{21, 22, 60, 200} {
		wantConfigError(t, "too many of its own", api.Config{Own: nets8(1, n)})
	}
}

func TestP5OwnThatIsNoPrefix(t *testing.T) {
	bad := []api.Prefix{
		{Addr: 1, Len: 0}, {Addr: 0x0a000001, Len: 8}, {Addr: 0x0a800000, Len: 8}, {Addr: 1, Len: 31},
		{Len: -1}, {Len: 33}, {Addr: 0x0a000000, Len: math.MaxInt}, {Addr: 0x0a000000, Len: math.MinInt}, {Len: 256},
	}
	for _, p := range bad {
		wantConfigError(t, "no prefix, alone", api.Config{Own: []api.Prefix{p}})
		for at := range 20 {
			own := nets8(1, 20)
			own[at] = p
			wantConfigError(t, "no prefix among others", api.Config{Own: own})
		}
	}
}

func TestP5OwnTwice(t *testing.T) {
	for a := range 20 {
		for b := range 20 {
			if a != b {
				own := nets8(1, 20)
				own[a] = own[b]
				wantConfigError(t, "twice", api.Config{Own: own})
			}
		}
	}
	wantConfigError(t, "the empty one twice", api.Config{Own: make([]api.Prefix, 2)})
	// The same address with another length is another prefix.
	var own []api.Prefix
	var want []api.Route
	for n := range 20 {
		p := api.Prefix{Addr: 0x0a000000, Len: 13 + n}
		own = append(own, p)
		want = append(want, api.Route{Prefix: p, Metric: 1, From: api.Own})
	}
	wantRoutes(t, "all lengths of one address", newRouter(t, nil, own...).View(), want...)
}

func TestP5OwnAtTheEdges(t *testing.T) {
	own := []api.Prefix{{Addr: math.MaxUint32, Len: 32}, {Len: 32}, {Addr: 1 << 31, Len: 1}, {}}
	var want []api.Route
	for _, at := range []int{3, 1, 2, 0} {
		want = append(want, api.Route{Prefix: own[at], Metric: 1, From: api.Own})
	}
	wantRoutes(t, "in order", newRouter(t, nil, own...).View(), want...)
}

func TestP5SeveralWrongThings(t *testing.T) {
	wantConfigError(t, "all is wrong", api.Config{Costs: make([]int, 9), Own: make([]api.Prefix, 21)})
	wantConfigError(t, "the costs alone", api.Config{Costs: []int{16}, Own: nets8(1, 3)})
	wantConfigError(t, "its own alone", api.Config{Costs: []int{1}, Own: []api.Prefix{{Addr: 1}}})
}

func TestP2ConfigIsNeitherKeptNorWritten(t *testing.T) {
	costs := append(make([]int, 0, 8), 3, 4)
	own := append(make([]api.Prefix, 0, 20), net8(9), net8(3), net8(5))
	r, err := milepost.New(api.Config{Costs: costs, Own: own})
	if err != nil {
		t.Fatal(err)
	}
	if !slices.Equal(costs, []int{3, 4}) || !slices.Equal(own, []api.Prefix{net8(9), net8(3), net8(5)}) {
		t.Errorf("New wrote: %v, %v", costs, own)
	}
	if !slices.Equal(costs[:8], []int{3, 4, 0, 0, 0, 0, 0, 0}) || !slices.Equal(own[3:20], make([]api.Prefix, 17)) {
		t.Errorf("New wrote into the spare room: %v, %v", costs[:8], own[:20])
	}
	costs[0], costs[1] = 9, 9
	clear(own)
	hear(t, r, 0, entry(20, 0, 1))
	hear(t, r, 1, entry(21, 0, 1))
	wantRoutes(t, "behind the lists' change", r.View(),
		ownRoute(3), ownRoute(5), ownRoute(9), route(20, 0, 4, 0), route(21, 0, 5, 1))
}

func TestP2RoutersKnowNothingOfOneAnother(t *testing.T) {
	c := api.Config{Costs: []int{1, 2}, Own: nets8(1, 2)}
	a, _ := milepost.New(c)
	b, _ := milepost.New(c)
	hear(t, a, 0, entry(20, 0, 1))
	wantRoutes(t, "the other one", b.View(), ownRoute(1), ownRoute(2))
	hear(t, b, 1, entry(20, 7, 3))
	down(t, a, 0)
	tick(t, a, 120)
	wantRoutes(t, "the one", a.View(), ownRoute(1), ownRoute(2))
	wantRoutes(t, "the other one", b.View(), ownRoute(1), ownRoute(2), route(20, 7, 5, 1))
}
