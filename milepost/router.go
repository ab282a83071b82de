package milepost

import (
	"errors"
	"slices"
	"sync"
	"sync/atomic"

	"milepost/api"
	"milepost/packet"
	"milepost/prefix"
	"milepost/table"
	"milepost/tell"
)

const (
	minCost = 1
	maxCost = api.Infinity - 1
)

// Router learns routes and tells of them.
type Router struct {
	costs []int
	// changing is for those alone who change something: of two at once, one's work would be lost.
	changing sync.Mutex
	now      atomic.Pointer[View]
}

// New makes a router (P5).
func New(c api.Config) (*Router, error) {
	if !areCosts(c.Costs) || !areOwn(c.Own) {
		return nil, api.ErrConfig
	}
	r := &Router{costs: slices.Clone(c.Costs)}
	r.now.Store(&View{table.Start(c.Own)})
	return r, nil
}

func areCosts(costs []int) bool {
	return len(costs) <= api.MaxNeighbours && !slices.ContainsFunc(costs, isNoCost)
}

func isNoCost(n int) bool { return n < minCost || n > maxCost }

func areOwn(own []api.Prefix) bool {
	if len(own) > api.MaxOwn {
		return false
	}
	for i, p := range own {
		if !prefix.Is(p) || slices.Contains(own[:i], p) {
			return false
		}
	}
	return true
}

// Receive takes in what a neighbour sent (P6).
func (r *Router) Receive(from int, data string) ([]api.Out, error) {
	if !r.isNeighbour(from) {
		return nil, api.ErrNeighbour
	}
	p, err := packet.Decode(data)
	if err != nil {
		return nil, faultIn(err)
	}
	if p.Command == api.Request {
		return tell.To(from, r.View().table), nil
	}
	r.change(func(t table.Table) table.Table { return t.Heard(from, r.costs[from], p.Entries) })
	return nil, nil
}

func (r *Router) isNeighbour(n int) bool { return n >= 0 && n < len(r.costs) }

// faultIn takes what is wrong with a packet out of an error, so that who calls is told the fault itself, whatever it is wrapped in.
func faultIn(err error) error {
	var fault *api.Fault
	if errors.As(err, &fault) {
		return fault
	}
	return err
}

// Tick lets time pass (P7).
func (r *Router) Tick(n int) error {
	if n < 0 || n > api.MaxTicks {
		return api.ErrTicks
	}
	r.change(func(t table.Table) table.Table { return t.Later(n) })
	return nil
}

// Down says that a neighbour is reached no more (P7).
func (r *Router) Down(neighbour int) error {
	if !r.isNeighbour(neighbour) {
		return api.ErrNeighbour
	}
	r.change(func(t table.Table) table.Table { return t.Lost(neighbour) })
	return nil
}

// change publishes how everything stands behind a step.
func (r *Router) change(step func(table.Table) table.Table) {
	r.changing.Lock()
	defer r.changing.Unlock()
	r.now.Store(&View{step(r.now.Load().table)})
}

// Update tells all neighbours of everything (P8).
func (r *Router) Update() []api.Out { return r.announce(table.Table.All) }

// Due tells all neighbours of what has changed (P8).
func (r *Router) Due() []api.Out { return r.announce(table.Table.Changed) }

// announce tells within the change, so that what another one changes meanwhile does not pass for told.
func (r *Router) announce(which func(table.Table) table.Table) []api.Out {
	var outs []api.Out
	r.change(func(t table.Table) table.Table {
		outs = tell.Each(len(r.costs), which(t))
		return t.Told()
	})
	return outs
}

// View is how everything stands now (P9).
func (r *Router) View() *View { return r.now.Load() }
