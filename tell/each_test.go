package tell

import (
	"runtime"
	"slices"
	"testing"
	"time"

	"milepost/api"
	"milepost/table"
)

// many is a table of so many routes, by 8 neighbours in turn.
func many(count int) table.Table {
	t := table.Start(nil)
	for n := range count {
		t = t.Heard(n%8, 1, []api.Entry{{Prefix: net8(1 + n), Tag: n, Metric: 1 + n%14}})
	}
	return t
}

func TestEachIsToOneAfterAnother(t *testing.T) {
	for neighbours := range 9 {
		for _, count := range []int{0, 1, 25, 26, 60} {
			routes := many(count)
			var want []api.Out
			for n := range neighbours {
				want = append(want, To(n, routes)...)
			}
			for range 20 {
				if got := Each(neighbours, routes); !slices.Equal(got, want) {
					t.Fatalf("%d neighbours, %d routes: %x, want %x", neighbours, count, got, want)
				}
			}
		}
	}
}

func TestEachSharesNothing(t *testing.T) {
	routes := many(60)
	a, b := Each(8, routes), Each(8, routes)
	kept := slices.Clone(b)
	clear(a[:cap(a)])
	if !slices.Equal(b, kept) || !slices.Equal(Each(8, routes), kept) {
		t.Errorf("what is told has changed with another list")
	}
}

func TestEachLeavesNoGoroutine(t *testing.T) {
	routes := many(26)
	before := runtime.NumGoroutine()
	for range 100 {
		Each(8, routes)
	}
	// One that has told its end may be counted for a moment more.
	for range 1000 {
		if runtime.NumGoroutine() <= before {
			return
		}
		time.Sleep(time.Millisecond)
	}
	t.Errorf("%d goroutines before, %d behind", before, runtime.NumGoroutine())
}
