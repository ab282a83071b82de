package milepost_test

import (
	"math"
	"slices"
	"sync"
	"testing"

	"milepost/api"
	"milepost/milepost"
)

func wantFound(t *testing.T, v *milepost.View, addr uint32, want api.Route) {
	t.Helper()
	if got, err := v.Lookup(addr); err != nil || got != want {
		t.Errorf("Lookup(%08x) = %v, %v, want %v", addr, got, err, want)
	}
}

func wantNone(t *testing.T, v *milepost.View, addr uint32) {
	t.Helper()
	if got, err := v.Lookup(addr); err != api.ErrNone || got != (api.Route{}) {
		t.Errorf("Lookup(%08x) = %v, %v", addr, got, err)
	}
}

func TestP9Order(t *testing.T) {
	want := []api.Prefix{
		{Addr: 0, Len: 0}, {Addr: 0, Len: 1}, {Addr: 0, Len: 32}, {Addr: 1, Len: 32},
		{Addr: 0x0a000000, Len: 8}, {Addr: 0x0a000000, Len: 9}, {Addr: 0x0a000000, Len: 32}, {Addr: 0x0a800000, Len: 9},
		{Addr: 0x80000000, Len: 1}, {Addr: 0xff000000, Len: 8}, {Addr: math.MaxUint32, Len: 32},
	}
	for turn := range len(want) {
		// The order in which they are heard of is another one each time.
		heard := slices.Concat(want[turn:], want[:turn])
		r := newRouter(t, []int{1}, heard[0], heard[1])
		for _, p := range heard[2:] {
			hear(t, r, 0, api.Entry{Prefix: p, Metric: 1})
		}
		var got []api.Prefix
		for _, x := range r.View().Routes() {
			got = append(got, x.Prefix)
		}
		if !slices.Equal(got, want) {
			t.Errorf("turn %d: %v", turn, got)
		}
	}
}

func TestP9LookupLongest(t *testing.T) {
	r := newRouter(t, []int{1})
	const addr = 0xc0a80a07
	for _, length := range []int{32, 0, 16, 24, 8, 31, 1} {
		wantLen := -1
		hear(t, r, 0, api.Entry{Prefix: api.Prefix{Addr: addr & maskOf(length), Len: length}, Tag: length, Metric: 1})
		for _, x := range r.View().Routes() {
			wantLen = max(wantLen, x.Prefix.Len)
		}
		wantFound(t, r.View(), addr, api.Route{Prefix: api.Prefix{Addr: addr & maskOf(wantLen), Len: wantLen}, Tag: wantLen, Metric: 2})
	}
	// Each bit that is another one leaves the prefixes that end before it.
	for bit := range 32 {
		got, err := r.View().Lookup(addr ^ 1<<(31-bit))
		want := 0
		for _, length := range []int{1, 8, 16, 24, 31} {
			if length <= bit {
				want = length
			}
		}
		if err != nil || got.Prefix.Len != want {
			t.Errorf("bit %d: %v, %v, want the length %d", bit, got, err, want)
		}
	}
}

func TestP9LookupAtTheEdges(t *testing.T) {
	for length := range 33 {
		for _, addr := range []uint32{0, 0x0a000000, math.MaxUint32} {
			p := api.Prefix{Addr: addr & maskOf(length), Len: length}
			first, last := p.Addr, p.Addr|^maskOf(length)
			v := newRouter(t, nil, p).View()
			want := api.Route{Prefix: p, Metric: 1, From: api.Own}
			wantFound(t, v, first, want)
			wantFound(t, v, last, want)
			if first > 0 {
				wantNone(t, v, first-1)
			}
			if last < math.MaxUint32 {
				wantNone(t, v, last+1)
			}
		}
	}
}

func TestP9LookupNone(t *testing.T) {
	for _, addr := range []uint32{0, 1, 0x0a000000, math.MaxUint32} {
		wantNone(t, newRouter(t, []int{1}).View(), addr)
		wantNone(t, new(milepost.View), addr)
	}
	wantRoutes(t, "a view of nothing", new(milepost.View))
}

func TestP9LookupPassesTheDyingBy(t *testing.T) {
	r := newRouter(t, []int{1, 1, 1})
	wide, narrow := net8(20), api.Prefix{Addr: 0x14010000, Len: 16}
	host := api.Prefix{Addr: 0x14010203, Len: 32}
	hear(t, r, 0, api.Entry{Prefix: wide, Metric: 9})
	hear(t, r, 1, api.Entry{Prefix: narrow, Metric: 14})
	hear(t, r, 2, api.Entry{Prefix: host, Metric: 1})
	wantFound(t, r.View(), host.Addr, api.Route{Prefix: host, Metric: 2, From: 2})
	down(t, r, 2)
	wantFound(t, r.View(), host.Addr, api.Route{Prefix: narrow, Metric: 15, From: 1})
	down(t, r, 1)
	wantFound(t, r.View(), host.Addr, api.Route{Prefix: wide, Metric: 10, From: 0})
	down(t, r, 0)
	wantNone(t, r.View(), host.Addr)
	hear(t, r, 1, api.Entry{Prefix: narrow, Metric: 1})
	wantFound(t, r.View(), host.Addr, api.Route{Prefix: narrow, Metric: 2, From: 1})
	wantNone(t, r.View(), 0x14000000)
}

func TestP9ViewStays(t *testing.T) {
	r := newRouter(t, []int{1, 1}, net8(1))
	var views []*milepost.View
	var stood [][]api.Route
	look := func() {
		views = append(views, r.View())
		stood = append(stood, r.View().Routes())
	}
	look()
	hear(t, r, 0, entry(20, 7, 5), entry(30, 7, 5))
	look()
	hear(t, r, 1, entry(10, 7, 1), entry(20, 8, 1))
	look()
	hear(t, r, 0, entry(30, 9, 16))
	look()
	ask(t, r, 0)
	tick(t, r, 1)
	down(t, r, 1)
	look()
	tick(t, r, 120)
	look()
	hear(t, r, 0, entry(5, 0, 1))
	r.Update()
	r.Due()
	look()
	for i, v := range views {
		wantRoutes(t, "a view of before", v, stood[i]...)
	}
	wantNone(t, views[0], 20<<24)
	wantFound(t, views[1], 20<<24, route(20, 7, 6, 0))
	wantFound(t, views[2], 20<<24, route(20, 8, 2, 1))
	wantFound(t, views[3], 20<<24, route(20, 8, 2, 1))
	wantNone(t, views[4], 20<<24)
}

func TestP2RoutesAreNewMemory(t *testing.T) {
	r := newRouter(t, []int{1}, net8(1))
	hear(t, r, 0, entry(20, 7, 5), entry(30, 7, 5))
	v := r.View()
	want := []api.Route{ownRoute(1), route(20, 7, 6, 0), route(30, 7, 6, 0)}
	a, b := v.Routes(), v.Routes()
	clear(a[:cap(a)])
	if !slices.Equal(b, want) {
		t.Errorf("one list has changed with another one: %v", b)
	}
	wantRoutes(t, "the view", v, want...)
	wantRoutes(t, "the router", r.View(), want...)
	wantFound(t, v, 20<<24, want[1])
	hear(t, r, 0, entry(40, 0, 1))
	wantRoutes(t, "the router goes on", r.View(), append(want, route(40, 0, 2, 0))...)
}

// Whoever looks sees all of a packet or nothing of it, while others change the router.
func TestP9ViewsWhileTheRouterChanges(t *testing.T) {
	r := newRouter(t, []int{1, 1})
	var changers, lookers sync.WaitGroup
	done := make(chan struct{})
	for from := range 2 {
		entries := [][]api.Entry{{entry(20+from, 1, 1), entry(30+from, 1, 1)}, {entry(20+from, 2, 2), entry(30+from, 2, 2)}}
		data := []string{written(t, entries[0]...), written(t, entries[1]...)}
		changers.Go(func() {
			for n := range 2000 {
				r.Receive(from, data[n%2])
				r.Tick(0)
			}
		})
		lookers.Go(func() {
			for {
				select {
				case <-done:
					return
				default:
				}
				v := r.View()
				a, errA := v.Lookup(uint32(20+from) << 24)
				b, errB := v.Lookup(uint32(30+from) << 24)
				if errA != errB || a.Tag != b.Tag || a.Metric != b.Metric {
					t.Errorf("half a packet: %v, %v", a, b)
					return
				}
			}
		})
	}
	changers.Wait()
	close(done)
	lookers.Wait()
	wantRoutes(t, "nothing is lost", r.View(), route(20, 2, 3, 0), route(21, 2, 3, 1), route(30, 2, 3, 0), route(31, 2, 3, 1))
}

// Of several who change the router at once, nobody's work is lost.
func TestP6SeveralTellAtOnce(t *testing.T) {
	data := make([]string, 56)
	for n := range data {
		data[n] = written(t, entry(100+n, n, 1))
	}
	for range 200 {
		r := newRouter(t, slices.Repeat([]int{1}, 8))
		var tellers sync.WaitGroup
		for from := range 8 {
			tellers.Go(func() {
				for n := from; n < len(data); n += 8 {
					r.Receive(from, data[n])
				}
			})
		}
		tellers.Wait()
		if n := len(r.View().Routes()); n != len(data) {
			t.Fatalf("%d routes, want %d", n, len(data))
		}
	}
}
