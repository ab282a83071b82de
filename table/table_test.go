package table

import (
	"slices"
	"testing"

	"milepost/api"
)

func net8(n int) api.Prefix { return api.Prefix{Addr: uint32(n) << 24, Len: 8} }

func entry(n, tag, metric int) api.Entry {
	return api.Entry{Prefix: net8(n), Tag: tag, Metric: metric}
}

func rowOf(n, tag, metric, from, age int, changed bool) Row {
	return Row{api.Route{Prefix: net8(n), Tag: tag, Metric: metric, From: from}, age, changed}
}

func wantRows(t *testing.T, why string, got Table, want ...Row) {
	t.Helper()
	if !slices.Equal(got.rows, want) {
		t.Errorf("%s: %v, want %v", why, got.rows, want)
	}
}

func TestP5OwnAreChangedAndInOrder(t *testing.T) {
	own := []api.Prefix{net8(9), net8(3), net8(5)}
	wantRows(t, "its own", Start(own),
		rowOf(3, 0, 1, api.Own, 0, true), rowOf(5, 0, 1, api.Own, 0, true), rowOf(9, 0, 1, api.Own, 0, true))
	if !slices.Equal(own, []api.Prefix{net8(9), net8(3), net8(5)}) {
		t.Errorf("Start wrote into its list: %v", own)
	}
	wantRows(t, "nothing of its own", Start(nil))
}

func TestP6NewRouteIsChanged(t *testing.T) {
	wantRows(t, "a new one", Start(nil).Heard(2, 5, []api.Entry{entry(20, 7, 10), entry(10, 8, 11), entry(5, 9, 1)}),
		rowOf(5, 9, 6, 2, 0, true), rowOf(20, 7, 15, 2, 0, true))
}

func TestP7Steps(t *testing.T) {
	start := Table{[]Row{
		rowOf(1, 0, 1, api.Own, 0, false),
		rowOf(2, 7, 5, 0, 170, false),
		rowOf(3, 7, 5, 1, 0, false),
		rowOf(4, 7, 16, 0, 110, false),
	}}
	wantRows(t, "no tick", start.Later(0), start.rows...)
	wantRows(t, "9 ticks", start.Later(9),
		rowOf(1, 0, 1, api.Own, 0, false), rowOf(2, 7, 5, 0, 179, false), rowOf(3, 7, 5, 1, 9, false), rowOf(4, 7, 16, 0, 119, false))
	wantRows(t, "10 ticks", start.Later(10),
		rowOf(1, 0, 1, api.Own, 0, false), rowOf(2, 7, 16, 0, 0, true), rowOf(3, 7, 5, 1, 10, false))
	wantRows(t, "190 ticks", start.Later(190),
		rowOf(1, 0, 1, api.Own, 0, false), rowOf(3, 7, 16, 1, 10, true))
	wantRows(t, "neighbour 0 is down", start.Lost(0),
		rowOf(1, 0, 1, api.Own, 0, false), rowOf(2, 7, 16, 0, 0, true), rowOf(3, 7, 5, 1, 0, false), rowOf(4, 7, 16, 0, 110, false))
}

func TestP8ChangedAndTold(t *testing.T) {
	start := Table{[]Row{
		rowOf(1, 0, 1, api.Own, 0, true),
		rowOf(2, 7, 5, 0, 170, false),
		rowOf(3, 7, 16, 1, 110, true),
		rowOf(4, 7, 16, 0, 0, false),
	}}
	wantRows(t, "all", start.All(), start.rows...)
	wantRows(t, "changed", start.Changed(), start.rows[0], start.rows[2])
	wantRows(t, "told", start.Told(),
		rowOf(1, 0, 1, api.Own, 0, false), start.rows[1], rowOf(3, 7, 16, 1, 110, false), start.rows[3])
	wantRows(t, "told, and nothing is changed", start.Told().Changed())
	wantRows(t, "told of nothing", Table{}.Told())
	wantRows(t, "nothing", Table{}.Changed())
}

// A step makes a new table: neither its rows nor their spare room are those of the one before.
func TestP9TablesStay(t *testing.T) {
	start := Start([]api.Prefix{net8(1)}).Heard(0, 1, []api.Entry{entry(2, 7, 5), entry(4, 7, 5)})
	start.rows = slices.Grow(start.rows, 40)
	kept := slices.Clone(start.rows[:cap(start.rows)])
	for _, step := range []func() Table{
		func() Table { return start.Heard(1, 1, []api.Entry{entry(2, 8, 1), entry(3, 8, 1), entry(5, 8, 1)}) },
		func() Table { return start.Heard(0, 1, []api.Entry{entry(2, 8, 16)}) },
		func() Table { return start.Later(0) },
		func() Table { return start.Later(180) },
		func() Table { return start.Later(1000) },
		func() Table { return start.Lost(0) },
		func() Table { return start.Changed() },
		func() Table { return start.Told() },
		func() Table { return start.Told().Changed() },
	} {
		next := step()
		clear(next.rows[:cap(next.rows)])
		if !slices.Equal(start.rows[:cap(start.rows)], kept) {
			t.Errorf("a table has changed: %v, want %v", start.rows, kept)
		}
	}
}

func TestP2WrittenIsNewMemory(t *testing.T) {
	start := Start([]api.Prefix{net8(1), net8(2)})
	a, b := Write(start, Row.AsIs), Write(start, Row.AsIs)
	clear(a[:cap(a)])
	if len(b) != 2 || b[0] != start.rows[0].Route || b[1] != start.rows[1].Route {
		t.Errorf("Write = %v", b)
	}
	wantRows(t, "behind what was written", start, Start([]api.Prefix{net8(1), net8(2)}).rows...)
	if l := Write(Table{}, Row.AsIs); len(l) != 0 {
		t.Errorf("of nothing: %v", l)
	}
}
