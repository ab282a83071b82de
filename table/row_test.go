package table

import (
	"testing"

	"milepost/api"
)

const by, other = 3, 4

func row(metric, tag, from, age int, changed bool) Row {
	return Row{api.Route{Prefix: api.Prefix{Addr: 0x0a000000, Len: 8}, Tag: tag, Metric: metric, From: from}, age, changed}
}

func news(metric, tag, from int) api.Route {
	return row(metric, tag, from, 0, false).Route
}

func TestP6OwnHearsNothing(t *testing.T) {
	for _, changed := range []bool{false, true} {
		own := row(1, 0, api.Own, 0, changed)
		for metric := 2; metric <= 16; metric++ {
			if got := own.heard(news(metric, 7, by)); got != own {
				t.Errorf("%v has become %v", own, got)
			}
		}
	}
}

func TestP6SameNeighbour(t *testing.T) {
	for _, c := range []struct {
		why        string
		was        Row
		news       api.Route
		want       Row
		andChanged bool
	}{
		{"nothing new", row(5, 7, by, 179, false), news(5, 7, by), row(5, 7, by, 0, false), false},
		{"nearer", row(5, 7, by, 179, false), news(4, 7, by), row(4, 7, by, 0, false), true},
		{"farther", row(5, 7, by, 9, false), news(15, 7, by), row(15, 7, by, 0, false), true},
		{"another tag", row(5, 7, by, 9, false), news(5, 8, by), row(5, 8, by, 0, false), true},
		{"both", row(5, 7, by, 9, false), news(6, 0, by), row(6, 0, by, 0, false), true},
		{"too far", row(5, 7, by, 9, false), news(16, 8, by), row(16, 7, by, 0, false), true},
		{"too far, dying", row(16, 7, by, 9, false), news(16, 8, by), row(16, 7, by, 9, false), false},
		{"near again, dying", row(16, 7, by, 9, false), news(15, 7, by), row(15, 7, by, 0, false), true},
	} {
		c.want.changed = c.andChanged
		if got := c.was.heard(c.news); got != c.want {
			t.Errorf("%s: %v, want %v", c.why, got, c.want)
		}
		// What was changed already stays so till it is told.
		c.was.changed, c.want.changed = true, true
		if got := c.was.heard(c.news); got != c.want {
			t.Errorf("%s, changed already: %v, want %v", c.why, got, c.want)
		}
	}
}

func TestP6OtherNeighbour(t *testing.T) {
	for was := 2; was <= 16; was++ {
		for metric := 2; metric <= 16; metric++ {
			for _, age := range []int{0, 1, 89, 90, 91, 119, 179} {
				for _, changed := range []bool{false, true} {
					before := row(was, 7, by, age, changed)
					want := before
					if metric < was || metric == was && metric < 16 && age >= 90 {
						want = row(metric, 8, other, 0, true)
					}
					if got := before.heard(news(metric, 8, other)); got != want {
						t.Errorf("%v hears %d: %v, want %v", before, metric, got, want)
					}
				}
			}
		}
	}
}

func TestP7Older(t *testing.T) {
	for _, changed := range []bool{false, true} {
		for _, c := range []struct{ was, want Row }{
			{row(1, 0, api.Own, 0, changed), row(1, 0, api.Own, 0, changed)},
			{row(5, 7, by, 0, changed), row(5, 7, by, 1, changed)},
			{row(5, 7, by, 119, changed), row(5, 7, by, 120, changed)},
			{row(5, 7, by, 178, changed), row(5, 7, by, 179, changed)},
			{row(15, 7, by, 179, changed), row(16, 7, by, 0, true)},
			{row(16, 7, by, 0, changed), row(16, 7, by, 1, changed)},
			{row(16, 7, by, 118, changed), row(16, 7, by, 119, changed)},
		} {
			if got := c.was.older(); got != c.want || got.isForgotten() {
				t.Errorf("%v has become %v, forgotten %v, want %v", c.was, got, got.isForgotten(), c.want)
			}
		}
	}
	if !row(16, 7, by, 119, false).older().isForgotten() {
		t.Errorf("dying for 120 ticks, and not forgotten")
	}
}

func TestP7Lost(t *testing.T) {
	for _, c := range []struct{ was, want Row }{
		{row(2, 7, by, 150, false), row(16, 7, by, 0, true)},
		{row(15, 7, by, 0, true), row(16, 7, by, 0, true)},
		{row(16, 7, by, 100, false), row(16, 7, by, 100, false)},
		{row(16, 7, by, 100, true), row(16, 7, by, 100, true)},
	} {
		if got := c.was.lost(); got != c.want {
			t.Errorf("%v has become %v, want %v", c.was, got, c.want)
		}
	}
}
