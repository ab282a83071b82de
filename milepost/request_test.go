package milepost_test

import (
	"slices"
	"testing"

	"milepost/api"
	"milepost/milepost"
)

func ask(t *testing.T, r *milepost.Router, from int) []api.Out {
	t.Helper()
	out, err := r.Receive(from, askAll)
	if err != nil {
		t.Errorf("Receive(%d) of a Request: %v", from, err)
	}
	return out
}

// toldOf is the packets of P8 for one neighbour, put together entry by entry.
func toldOf(t *testing.T, to int, routes []api.Route) []api.Out {
	t.Helper()
	var outs []api.Out
	for i, x := range routes {
		if i%25 == 0 {
			outs = append(outs, api.Out{To: to, Data: responseHead})
		}
		told := raw{family: 2, tag: uint16(x.Tag), addr: x.Prefix.Addr, mask: maskOf(x.Prefix.Len), metric: uint32(x.Metric)}
		if x.From == to {
			told.metric = 16
		}
		outs[len(outs)-1].Data += told.bytes()
	}
	return outs
}

func wantAnswer(t *testing.T, r *milepost.Router, from int) {
	t.Helper()
	want := toldOf(t, from, r.View().Routes())
	if got := ask(t, r, from); !slices.Equal(got, want) {
		t.Errorf("to %d: %x, want %x", from, got, want)
	}
}

func TestP6RequestIsAnswered(t *testing.T) {
	r := newRouter(t, []int{1, 2, 3}, net8(10))
	hear(t, r, 1, entry(20, 3, 4), entry(5, 65535, 13))
	hear(t, r, 2, entry(30, 4, 5))
	down(t, r, 2)
	for to, metrics := range [][]int{{15, 1, 6, 16}, {16, 1, 16, 16}, {15, 1, 6, 16}} {
		data := written(t, entry(5, 65535, metrics[0]), entry(10, 0, metrics[1]), entry(20, 3, metrics[2]), entry(30, 4, metrics[3]))
		if got := ask(t, r, to); !slices.Equal(got, []api.Out{{To: to, Data: data}}) {
			t.Errorf("to %d: %x, want %x", to, got, data)
		}
	}
}

func TestP6RequestHowManyPackets(t *testing.T) {
	for count := range 61 {
		r := newRouter(t, []int{1, 1})
		for n := range count {
			hear(t, r, n%2, entry(100-n, n, 1+n%14))
		}
		for from := range 2 {
			wantAnswer(t, r, from)
			if got, want := len(ask(t, r, from)), (count+24)/25; got != want {
				t.Errorf("%d routes: %d packets, want %d", count, got, want)
			}
		}
	}
}

func TestP6RequestOfAllLengths(t *testing.T) {
	r := newRouter(t, []int{1, 1})
	for length := range 33 {
		p := api.Prefix{Addr: 0xa5a5a5a5 & maskOf(length), Len: length}
		hear(t, r, length%2, api.Entry{Prefix: p, Tag: length * 1985, Metric: 1 + length%14})
	}
	wantAnswer(t, r, 0)
	wantAnswer(t, r, 1)
}

func TestP6RequestEdges(t *testing.T) {
	if out := ask(t, newRouter(t, []int{1}), 0); len(out) != 0 {
		t.Errorf("no routes: %x", out)
	}
	for count, sizes := range map[int][]int{1: {24}, 24: {484}, 25: {504}, 26: {504, 24}, 50: {504, 504}, 51: {504, 504, 24}, 60: {504, 504, 204}} {
		r := newRouter(t, []int{1})
		for n := range count {
			hear(t, r, 0, entry(1+n, 0, 1))
		}
		var got []int
		for _, out := range ask(t, r, 0) {
			got = append(got, len(out.Data))
		}
		if !slices.Equal(got, sizes) {
			t.Errorf("%d routes: packets of %v bytes, want %v", count, got, sizes)
		}
	}
}

func TestP6RequestChangesNothing(t *testing.T) {
	r := newRouter(t, []int{1, 1}, net8(1))
	hear(t, r, 0, entry(20, 7, 1), entry(21, 7, 1))
	hear(t, r, 0, entry(21, 7, 16))
	tick(t, r, 100)
	before := r.View().Routes()
	first := ask(t, r, 0)
	if !slices.Equal(ask(t, r, 0), first) || len(ask(t, r, 1)) != 1 {
		t.Errorf("asked again, the answer is another one")
	}
	wantRoutes(t, "behind a Request", r.View(), before...)
	tick(t, r, 20)
	wantRoutes(t, "the ages went on", r.View(), ownRoute(1), route(20, 7, 2, 0))
	tick(t, r, 60)
	wantRoutes(t, "the ages went on", r.View(), ownRoute(1), route(20, 7, 16, 0))
}

func TestP2AnswersShareNothing(t *testing.T) {
	r := newRouter(t, []int{1}, nets8(1, 20)...)
	hear(t, r, 0, entry(30, 0, 1), entry(31, 0, 1), entry(32, 0, 1), entry(33, 0, 1), entry(34, 0, 1), entry(35, 0, 1))
	a, b := ask(t, r, 0), ask(t, r, 0)
	kept := slices.Clone(b)
	clear(a[:cap(a)])
	if !slices.Equal(b, kept) || !slices.Equal(ask(t, r, 0), kept) {
		t.Errorf("an answer has changed with another one")
	}
}
