// Package milepost: how far everything is, by what neighbours tell: see DOC.md.
package milepost

import (
	"milepost/api"
	"milepost/packet"
)

// Decode reads a packet (P3).
func Decode(data string) (api.Packet, error) { return packet.Decode(data) }

// Encode writes a packet (P4).
func Encode(p api.Packet) (string, error) { return packet.Encode(p) }

// Router learns routes and tells of them.
type Router struct{}

// New makes a router (P5).
func New(c api.Config) (*Router, error) { return nil, nil }

// Receive takes in what a neighbour sent (P6).
func (r *Router) Receive(from int, data string) ([]api.Out, error) { return nil, nil }

// Tick lets time pass (P7).
func (r *Router) Tick(n int) error { return nil }

// Down says that a neighbour is reached no more (P7).
func (r *Router) Down(neighbour int) error { return nil }

// Update tells all neighbours of everything (P8).
func (r *Router) Update() []api.Out { return nil }

// Due tells all neighbours of what has changed (P8).
func (r *Router) Due() []api.Out { return nil }

// View is how everything stands now (P9).
func (r *Router) View() *View { return nil }

// View is how everything stood.
type View struct{}

// Routes tells all routes (P9).
func (v *View) Routes() []api.Route { return nil }

// Lookup tells by which route an address is reached (P9).
func (v *View) Lookup(addr uint32) (api.Route, error) { return api.Route{}, nil }
