package milepost_test

import (
	"math/rand"
	"slices"
	"testing"

	"milepost/api"
	"milepost/milepost"
)

// model is a router as the document tells of it, word by word and without haste; what the program answers is held against it.
type model struct {
	costs  []int
	routes map[api.Prefix]*modelRoute
}

type modelRoute struct {
	metric, tag, from, age int
	changed                bool
}

func newModel(costs []int, own []api.Prefix) *model {
	m := &model{costs, map[api.Prefix]*modelRoute{}}
	for _, p := range own {
		m.routes[p] = &modelRoute{metric: 1, from: api.Own, changed: true}
	}
	return m
}

func (m *model) hear(from int, entries []api.Entry) {
	for _, e := range entries {
		metric := e.Metric + m.costs[from]
		if metric > 16 {
			metric = 16
		}
		x := m.routes[e.Prefix]
		if x == nil {
			if metric < 16 && len(m.routes) < 60 {
				m.routes[e.Prefix] = &modelRoute{metric, e.Tag, from, 0, true}
			}
		} else if x.from == api.Own {
			continue
		} else if x.from == from {
			if metric < 16 {
				x.age = 0
				if x.metric != metric || x.tag != e.Tag {
					x.metric, x.tag, x.changed = metric, e.Tag, true
				}
			} else if x.metric != 16 {
				x.metric, x.age, x.changed = 16, 0, true
			}
		} else if metric < x.metric || metric == x.metric && metric < 16 && x.age >= 90 {
			*x = modelRoute{metric, e.Tag, from, 0, true}
		}
	}
}

func (m *model) tick(n int) {
	for range n {
		for p, x := range m.routes {
			if x.from == api.Own {
				continue
			}
			x.age++
			if x.metric != 16 && x.age == 180 {
				x.metric, x.age, x.changed = 16, 0, true
			} else if x.metric == 16 && x.age == 120 {
				delete(m.routes, p)
			}
		}
	}
}

func (m *model) down(neighbour int) {
	for _, x := range m.routes {
		if x.from == neighbour && x.metric != 16 {
			x.metric, x.age, x.changed = 16, 0, true
		}
	}
}

// told is the routes that are told of, all or the changed ones; then none is changed any more.
func (m *model) told(all bool) []api.Route {
	l := m.those(func(x *modelRoute) bool { return all || x.changed })
	for _, x := range m.routes {
		x.changed = false
	}
	return l
}

func (m *model) all() []api.Route {
	return m.those(func(*modelRoute) bool { return true })
}

func (m *model) those(which func(*modelRoute) bool) []api.Route {
	var l []api.Route
	for p, x := range m.routes {
		if which(x) {
			l = append(l, api.Route{Prefix: p, Tag: x.tag, Metric: x.metric, From: x.from})
		}
	}
	slices.SortFunc(l, func(a, b api.Route) int {
		if a.Prefix.Addr != b.Prefix.Addr {
			if a.Prefix.Addr < b.Prefix.Addr {
				return -1
			}
			return 1
		}
		return a.Prefix.Len - b.Prefix.Len
	})
	return l
}

func (m *model) lookup(addr uint32) api.Route {
	best := api.Route{Prefix: api.Prefix{Len: -1}}
	for p, x := range m.routes {
		if x.metric < 16 && addr&maskOf(p.Len) == p.Addr && p.Len > best.Prefix.Len {
			best = api.Route{Prefix: p, Tag: x.tag, Metric: x.metric, From: x.from}
		}
	}
	return best
}

func smallPrefix(rng *rand.Rand) api.Prefix {
	length := rng.Intn(33)
	if rng.Intn(3) > 0 {
		length = rng.Intn(5)
	}
	return api.Prefix{Addr: rng.Uint32() & 0xf0000003 & maskOf(length), Len: length}
}

func smallEntries(rng *rand.Rand) []api.Entry {
	var l []api.Entry
	for range 1 + rng.Intn(25) {
		l = append(l, api.Entry{Prefix: smallPrefix(rng), Tag: rng.Intn(3), Metric: 1 + rng.Intn(16)})
	}
	return l
}

func randomConfig(rng *rand.Rand) api.Config {
	var c api.Config
	for range 1 + rng.Intn(8) {
		c.Costs = append(c.Costs, 1+rng.Intn(4))
	}
	for range rng.Intn(6) {
		if p := smallPrefix(rng); !slices.Contains(c.Own, p) {
			c.Own = append(c.Own, p)
		}
	}
	return c
}

func holdAgainst(t *testing.T, r *milepost.Router, m *model, rng *rand.Rand) {
	t.Helper()
	wantRoutes(t, "held against the document's words", r.View(), m.all()...)
	addr := rng.Uint32() & 0xf0000007
	want := m.lookup(addr)
	if want.Prefix.Len < 0 {
		wantNone(t, r.View(), addr)
		return
	}
	wantFound(t, r.View(), addr, want)
}

func TestP6ToP9AgainstTheModel(t *testing.T) {
	rng := rand.New(rand.NewSource(5))
	fullOnes, partsDue := 0, 0
	for range 60 {
		c := randomConfig(rng)
		r, m := newRouter(t, c.Costs, c.Own...), newModel(c.Costs, c.Own)
		for range 150 {
			who := rng.Intn(len(c.Costs))
			switch rng.Intn(11) {
			case 0:
				down(t, r, who)
				m.down(who)
			case 1, 2:
				n := []int{0, 1, 30, 89, 90, 119, 120, 179, 180, 10, 20, 5}[rng.Intn(12)]
				tick(t, r, n)
				m.tick(n)
			case 3:
				wantAnswer(t, r, who)
			case 4, 5:
				due := m.told(false)
				if len(due) > 0 && len(due) < len(m.routes) {
					partsDue++
				}
				wantTold(t, "due", r.Due(), toldToAll(t, len(c.Costs), due))
			case 6:
				wantTold(t, "all", r.Update(), toldToAll(t, len(c.Costs), m.told(true)))
			default:
				entries := smallEntries(rng)
				hear(t, r, who, entries...)
				m.hear(who, entries)
			}
			holdAgainst(t, r, m, rng)
			if t.Failed() {
				return
			}
			if len(m.routes) == 60 {
				fullOnes++
			}
		}
	}
	if fullOnes < 100 || partsDue < 500 {
		t.Errorf("only %d times 60 routes, %d times some due: the test has gone blind", fullOnes, partsDue)
	}
}
