package milepost_test

import (
	"math/rand"
	"runtime"
	"slices"
	"sync"
	"testing"

	"milepost/api"
	"milepost/milepost"
)

// toldToAll is the packets of P8 for all neighbours.
func toldToAll(t *testing.T, neighbours int, routes []api.Route) []api.Out {
	t.Helper()
	var outs []api.Out
	for to := range neighbours {
		outs = append(outs, toldOf(t, to, routes)...)
	}
	return outs
}

func wantTold(t *testing.T, why string, got, want []api.Out) {
	t.Helper()
	if !slices.Equal(got, want) {
		t.Errorf("%s: %x, want %x", why, got, want)
	}
}

// wantUpdate asks for an Update of all routes of which the view tells.
func wantUpdate(t *testing.T, why string, r *milepost.Router, neighbours int) {
	t.Helper()
	want := toldToAll(t, neighbours, r.View().Routes())
	wantTold(t, why, r.Update(), want)
}

// wantDue asks for a Due of these routes alone, and that none is left behind it.
func wantDue(t *testing.T, why string, r *milepost.Router, neighbours int, routes ...api.Route) {
	t.Helper()
	wantTold(t, why, r.Due(), toldToAll(t, neighbours, routes))
	wantTold(t, why+", told already", r.Due(), nil)
}

// withRoutes is a router with so many routes, by all its neighbours in turn.
func withRoutes(t *testing.T, neighbours, count int) *milepost.Router {
	t.Helper()
	r := newRouter(t, slices.Repeat([]int{1}, neighbours))
	for n := range count {
		hear(t, r, n%neighbours, entry(100-n, n, 1+n%14))
	}
	if got := len(r.View().Routes()); got != count {
		t.Fatalf("%d routes, want %d", got, count)
	}
	return r
}

func TestP8UpdateTellsEachNeighbour(t *testing.T) {
	r := newRouter(t, []int{1, 2, 3}, net8(10))
	hear(t, r, 1, entry(20, 3, 4), entry(5, 65535, 13))
	hear(t, r, 2, entry(30, 4, 5))
	down(t, r, 2)
	var want []api.Out
	for to, metrics := range [][]int{{15, 1, 6, 16}, {16, 1, 16, 16}, {15, 1, 6, 16}} {
		want = append(want, api.Out{To: to, Data: written(t,
			entry(5, 65535, metrics[0]), entry(10, 0, metrics[1]), entry(20, 3, metrics[2]), entry(30, 4, metrics[3]))})
	}
	wantTold(t, "all routes", r.Update(), want)
	wantTold(t, "all routes again, changed or not", r.Update(), want)
}

func TestP8HowManyNeighboursAndRoutes(t *testing.T) {
	for neighbours := 1; neighbours <= 8; neighbours++ {
		for _, count := range []int{0, 1, 2, 24, 25, 26, 49, 50, 51, 59, 60} {
			wantUpdate(t, "all routes", withRoutes(t, neighbours, count), neighbours)
			r := withRoutes(t, neighbours, count)
			wantDue(t, "all routes are new", r, neighbours, r.View().Routes()...)
		}
	}
}

func TestP8SizesOfPackets(t *testing.T) {
	for count, sizes := range map[int][]int{0: nil, 1: {24}, 24: {484}, 25: {504}, 26: {504, 24}, 50: {504, 504}, 51: {504, 504, 24}, 60: {504, 504, 204}} {
		for _, call := range []func(*milepost.Router) []api.Out{(*milepost.Router).Due, (*milepost.Router).Update} {
			var tos, got []int
			for _, out := range call(withRoutes(t, 2, count)) {
				tos = append(tos, out.To)
				got = append(got, len(out.Data))
			}
			wantTos := slices.Concat(slices.Repeat([]int{0}, len(sizes)), slices.Repeat([]int{1}, len(sizes)))
			if !slices.Equal(got, slices.Concat(sizes, sizes)) || !slices.Equal(tos, wantTos) {
				t.Errorf("%d routes: packets of %v bytes to %v, want %v to each", count, got, tos, sizes)
			}
		}
	}
}

func TestP8NoRoutes(t *testing.T) {
	for neighbours := range 9 {
		r := newRouter(t, slices.Repeat([]int{1}, neighbours))
		wantTold(t, "no routes", r.Update(), nil)
		wantTold(t, "no routes", r.Due(), nil)
	}
}

// With nobody to tell, what was changed is changed no more all the same; none of it is ever seen.
func TestP8NoNeighbours(t *testing.T) {
	r := newRouter(t, nil, nets8(1, 20)...)
	for range 3 {
		wantTold(t, "nobody is told", r.Due(), nil)
		wantTold(t, "nobody is told", r.Update(), nil)
	}
	if n := len(r.View().Routes()); n != 20 {
		t.Errorf("%d routes, want 20", n)
	}
}

func TestP8InTheOrderOfPrefixes(t *testing.T) {
	prefixes := []api.Prefix{
		{Addr: 0, Len: 0}, {Addr: 0, Len: 1}, {Addr: 0, Len: 32}, {Addr: 1, Len: 32},
		{Addr: 0x0a000000, Len: 8}, {Addr: 0x0a000000, Len: 9}, {Addr: 0x0a800000, Len: 9},
		{Addr: 0x80000000, Len: 1}, {Addr: 0xff000000, Len: 8}, {Addr: 0xffffffff, Len: 32},
	}
	for turn := range prefixes {
		heard := slices.Concat(prefixes[turn:], prefixes[:turn])
		r := newRouter(t, []int{1, 1}, heard[0])
		for _, p := range heard[1:] {
			hear(t, r, 0, api.Entry{Prefix: p, Metric: 1})
		}
		for _, outs := range [][]api.Out{r.Due(), r.Update()} {
			for _, out := range outs {
				p, err := milepost.Decode(out.Data)
				if err != nil || len(p.Entries) != len(prefixes) {
					t.Fatalf("turn %d: %v, %v", turn, p, err)
				}
				for i, e := range p.Entries {
					if e.Prefix != prefixes[i] {
						t.Errorf("turn %d: entry %d is of %v, want %v", turn, i, e.Prefix, prefixes[i])
					}
				}
			}
		}
	}
}

func TestP8DyingAreToldToo(t *testing.T) {
	r := newRouter(t, []int{1, 1}, net8(1))
	hear(t, r, 0, entry(20, 7, 4))
	hear(t, r, 1, entry(30, 8, 4))
	tick(t, r, 180)
	for to := range 2 {
		want := []api.Out{{To: to, Data: written(t, entry(1, 0, 1), entry(20, 7, 16), entry(30, 8, 16))}}
		wantTold(t, "dying", ask(t, r, to), want)
	}
	wantUpdate(t, "dying", r, 2)
	tick(t, r, 119)
	wantUpdate(t, "all but forgotten", r, 2)
	tick(t, r, 1)
	wantTold(t, "forgotten", r.Update(), toldToAll(t, 2, []api.Route{ownRoute(1)}))
}

// A Request is answered with that part of an Update which is for who asked.
func TestP8RequestIsAPartOfUpdate(t *testing.T) {
	for _, count := range []int{0, 1, 25, 26, 60} {
		r := withRoutes(t, 8, count)
		var asked []api.Out
		for from := range 8 {
			asked = append(asked, ask(t, r, from)...)
		}
		wantTold(t, "asked one by one", r.Update(), asked)
	}
}

func TestP8ViewStays(t *testing.T) {
	r := withRoutes(t, 3, 30)
	v := r.View()
	before := v.Routes()
	r.Due()
	wantRoutes(t, "behind Due", r.View(), before...)
	hear(t, r, 0, entry(100, 9, 9), entry(120, 0, 1))
	r.Update()
	wantRoutes(t, "a view of before", v, before...)
	wantFound(t, v, 100<<24, route(100, 0, 2, 0))
	wantFound(t, r.View(), 100<<24, route(100, 9, 10, 0))
}

// Neither call makes anything older or younger.
func TestP8AgesGoOn(t *testing.T) {
	r := newRouter(t, []int{1, 1})
	hear(t, r, 0, entry(20, 7, 4))
	for range 179 {
		tick(t, r, 1)
		r.Update()
		r.Due()
	}
	wantRoutes(t, "179 ticks old", r.View(), route(20, 7, 5, 0))
	tick(t, r, 1)
	r.Update()
	wantRoutes(t, "180 ticks old", r.View(), route(20, 7, 16, 0))
	tick(t, r, 60)
	r.Due()
	r.Update()
	wantForgottenAfter(t, r, 60, []api.Route{route(20, 7, 16, 0)}, nil)
}

func TestP2WhatIsToldIsNewMemory(t *testing.T) {
	r := withRoutes(t, 8, 60)
	a, b := r.Update(), r.Update()
	kept := slices.Clone(b)
	clear(a[:cap(a)])
	wantTold(t, "another list", b, kept)
	wantTold(t, "the router", r.Update(), kept)
	hear(t, r, 0, entry(100, 9, 9))
	due := r.Due()
	kept = slices.Clone(due)
	hear(t, r, 0, entry(100, 8, 9))
	later := r.Due()
	clear(later[:cap(later)])
	wantTold(t, "what was due before", due, kept)
	wantUpdate(t, "the router goes on", r, 8)
}

// How the goroutines run is not to be seen.
func TestP8HoweverGoroutinesRun(t *testing.T) {
	r := withRoutes(t, 8, 60)
	want := toldToAll(t, 8, r.View().Routes())
	rng := rand.New(rand.NewSource(7))
	defer runtime.GOMAXPROCS(runtime.GOMAXPROCS(0))
	for range 300 {
		runtime.GOMAXPROCS(1 + rng.Intn(8))
		wantTold(t, "again and again", r.Update(), want)
	}
}

// Goroutines that a call has left behind are still there when it answers; one that is at its very end may be counted at times.
func TestP1GoroutinesHaveEndedAtTheAnswer(t *testing.T) {
	r := withRoutes(t, 8, 60)
	before := runtime.NumGoroutine()
	const calls = 400
	clean := 0
	for n := range calls {
		if n%2 == 0 {
			r.Update()
		} else {
			r.Due()
		}
		if runtime.NumGoroutine() <= before {
			clean++
		}
	}
	if clean < calls/4 {
		t.Errorf("behind %d calls of %d alone had all goroutines ended", clean, calls)
	}
	wantGoroutines(t, before)
}

// Of several who ask what is due at once, one is told of a change, and nobody's change is lost.
func TestP8SeveralAtOnce(t *testing.T) {
	data := make([]string, 56)
	for n := range data {
		data[n] = written(t, entry(100+n, n, 1))
	}
	for range 30 {
		r := newRouter(t, slices.Repeat([]int{1}, 8))
		outs := make([][]api.Out, 8)
		var all sync.WaitGroup
		for from := range outs {
			all.Go(func() {
				for n := from; n < len(data); n += len(outs) {
					r.Receive(from, data[n])
					outs[from] = append(outs[from], r.Due()...)
				}
			})
		}
		all.Wait()
		told := map[api.Prefix]int{}
		for _, out := range slices.Concat(outs...) {
			p, err := milepost.Decode(out.Data)
			if err != nil {
				t.Fatal(err)
			}
			for _, e := range p.Entries {
				told[e.Prefix]++
			}
		}
		for n := range data {
			if got := told[net8(100+n)]; got != 8 {
				t.Errorf("%d.0.0.0/8 was told %d times, want once to each of 8", 100+n, got)
			}
		}
	}
}
