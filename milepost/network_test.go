package milepost_test

import (
	"fmt"
	"math/rand"
	"slices"
	"testing"

	"milepost/api"
	"milepost/milepost"
)

// link joins two routers; each is a neighbour of the other one, by a number of its own.
type link struct {
	ends, numbers [2]int
	cost          int
	down          bool
}

// network is routers that tell one another, and the ways between them, by which the test reckons how far everything is.
type network struct {
	routers []*milepost.Router
	own     [][]api.Prefix
	links   []*link
}

// join is a link that makeNetwork is asked for.
type join struct{ a, b, cost int }

func makeNetwork(t *testing.T, own [][]api.Prefix, joins ...join) *network {
	t.Helper()
	net := &network{own: own}
	costs := make([][]int, len(own))
	for _, j := range joins {
		net.links = append(net.links, &link{ends: [2]int{j.a, j.b}, numbers: [2]int{len(costs[j.a]), len(costs[j.b])}, cost: j.cost})
		costs[j.a] = append(costs[j.a], j.cost)
		costs[j.b] = append(costs[j.b], j.cost)
	}
	for i := range own {
		net.routers = append(net.routers, newRouter(t, costs[i], own[i]...))
	}
	return net
}

// ownOnes gives each of so many routers one prefix of its own.
func ownOnes(count int) [][]api.Prefix {
	var own [][]api.Prefix
	for n := range count {
		own = append(own, []api.Prefix{net8(1 + n)})
	}
	return own
}

// at is the link by which a router reaches a neighbour, who is at its other end, and by what number the router is known there.
func (net *network) at(router, neighbour int) (l *link, other, number int) {
	for _, l := range net.links {
		for side := range 2 {
			if l.ends[side] == router && l.numbers[side] == neighbour {
				return l, l.ends[1-side], l.numbers[1-side]
			}
		}
	}
	return nil, 0, 0
}

func (net *network) send(t *testing.T, from int, outs []api.Out) {
	t.Helper()
	for _, out := range outs {
		l, other, number := net.at(from, out.To)
		if l == nil {
			t.Fatalf("router %d tells neighbour %d, which there is not", from, out.To)
		}
		if l.down {
			continue
		}
		if _, err := net.routers[other].Receive(number, out.Data); err != nil {
			t.Fatalf("what router %d told is not received: %v", from, err)
		}
	}
}

func (net *network) part(t *testing.T, which int) {
	t.Helper()
	l := net.links[which]
	l.down = true
	for side, router := range l.ends {
		down(t, net.routers[router], l.numbers[side])
	}
}

// tellInTurn: each router tells, and what it tells is received before the next one tells.
func (net *network) tellInTurn(t *testing.T, order []int) {
	t.Helper()
	for _, from := range order {
		net.send(t, from, net.routers[from].Update())
	}
}

// tellAtOnce: all routers tell before anything is received.
func (net *network) tellAtOnce(t *testing.T, order []int) {
	t.Helper()
	outs := make([][]api.Out, len(net.routers))
	for _, from := range order {
		outs[from] = net.routers[from].Update()
	}
	for _, from := range order {
		net.send(t, from, outs[from])
	}
}

// settle lets them tell one another for longer than any way could take to be learned or to be lost.
func (net *network) settle(t *testing.T, rng *rand.Rand, ticks int) {
	t.Helper()
	atOnce := rng.Intn(2) == 0
	for range 20 + 2*len(net.routers) {
		order := rng.Perm(len(net.routers))
		if atOnce {
			net.tellAtOnce(t, order)
		} else {
			net.tellInTurn(t, order)
		}
		for _, r := range net.routers {
			tick(t, r, ticks)
		}
	}
}

// distances is the length of the shortest way from each router to a prefix: 16, if it is longer or there is none.
func (net *network) distances(p api.Prefix) []int {
	far := slices.Repeat([]int{16}, len(net.routers))
	for i, own := range net.own {
		if slices.Contains(own, p) {
			far[i] = 1
		}
	}
	for range net.routers {
		for _, l := range net.links {
			if l.down {
				continue
			}
			a, b := l.ends[0], l.ends[1]
			far[a] = min(far[a], far[b]+l.cost)
			far[b] = min(far[b], far[a]+l.cost)
		}
	}
	return far
}

func (net *network) prefixes() []api.Prefix {
	var l []api.Prefix
	for _, p := range slices.Concat(net.own...) {
		if !slices.Contains(l, p) {
			l = append(l, p)
		}
	}
	return l
}

// routeTo is a router's route for a prefix; one that is not reached, if it has none.
func (net *network) routeTo(router int, p api.Prefix) api.Route {
	for _, x := range net.routers[router].View().Routes() {
		if x.Prefix == p {
			return x
		}
	}
	return api.Route{Prefix: p, Metric: 16}
}

// follow goes from router to router by From, and tells how long the way was (1, and the costs); 0, if it does not get there.
func (net *network) follow(router int, p api.Prefix) int {
	length := 1
	for range len(net.routers) + 1 {
		x := net.routeTo(router, p)
		if x.From == api.Own {
			return length
		}
		l, other, _ := net.at(router, x.From)
		if x.Metric == 16 || l == nil || l.down {
			return 0
		}
		length += l.cost
		router = other
	}
	return 0
}

func (net *network) check(t *testing.T, why string) {
	t.Helper()
	for _, p := range net.prefixes() {
		for router, want := range net.distances(p) {
			got := net.routeTo(router, p)
			if got.Metric != want {
				t.Errorf("%s: router %d has %v, want the metric %d", why, router, got, want)
			}
			if want == 16 {
				continue
			}
			if way := net.follow(router, p); way != want {
				t.Errorf("%s: router %d, %v: following From is a way of %d, want %d", why, router, p, way, want)
			}
		}
	}
}

// partAll settles and checks, then parts the links one by one in a random order, and settles and checks each time.
func (net *network) partAll(t *testing.T, why string, rng *rand.Rand, ticks int) {
	t.Helper()
	net.settle(t, rng, ticks)
	net.check(t, why)
	for n, which := range rng.Perm(len(net.links)) {
		net.part(t, which)
		net.settle(t, rng, ticks)
		net.check(t, fmt.Sprint(why, ", parted ", n+1))
		if t.Failed() {
			return
		}
	}
}

func line(count, cost int) []join {
	var l []join
	for n := 1; n < count; n++ {
		l = append(l, join{n - 1, n, cost})
	}
	return l
}

func ring(count, cost int) []join {
	return append(line(count, cost), join{count - 1, 0, cost})
}

func mesh(count, cost int) []join {
	var l []join
	for b := range count {
		for a := range b {
			l = append(l, join{a, b, cost})
		}
	}
	return l
}

func TestP10Line(t *testing.T) {
	rng := rand.New(rand.NewSource(1))
	for _, c := range []struct{ count, cost int }{{1, 1}, {2, 1}, {2, 14}, {2, 15}, {5, 3}, {15, 1}, {16, 1}, {17, 1}, {20, 1}, {10, 2}} {
		makeNetwork(t, ownOnes(c.count), line(c.count, c.cost)...).partAll(t, fmt.Sprint("a line of ", c), rng, 0)
	}
}

// 1 and the costs: 15 is reached, 16 is not.
func TestP10HowFarIsTooFar(t *testing.T) {
	net := makeNetwork(t, ownOnes(16), line(16, 1)...)
	net.settle(t, rand.New(rand.NewSource(2)), 0)
	for far := range 16 {
		want := min(1+far, 16)
		if got := net.routeTo(far, net8(1)).Metric; got != want {
			t.Errorf("%d links away: metric %d, want %d", far, got, want)
		}
	}
}

func TestP10Ring(t *testing.T) {
	rng := rand.New(rand.NewSource(3))
	for _, c := range []struct{ count, cost int }{{3, 1}, {3, 7}, {4, 1}, {6, 2}, {9, 3}, {16, 1}, {31, 1}} {
		makeNetwork(t, ownOnes(c.count), ring(c.count, c.cost)...).partAll(t, fmt.Sprint("a ring of ", c), rng, 0)
	}
}

func TestP10Mesh(t *testing.T) {
	rng := rand.New(rand.NewSource(4))
	for _, c := range []struct{ count, cost int }{{4, 1}, {5, 6}, {9, 1}} {
		makeNetwork(t, ownOnes(c.count), mesh(c.count, c.cost)...).partAll(t, fmt.Sprint("a mesh of ", c), rng, 0)
	}
}

// A ring whose prefix is parted from it: its metric grows from router to router till it is not reached.
func TestP10WhatIsLostIsNotReached(t *testing.T) {
	for _, count := range []int{2, 3, 4, 8} {
		joins := append([]join{{0, count, 1}}, mesh(count, 1)...)
		net := makeNetwork(t, ownOnes(count+1), joins...)
		rng := rand.New(rand.NewSource(5))
		net.settle(t, rng, 0)
		net.check(t, "whole")
		net.part(t, 0)
		net.settle(t, rng, 0)
		net.check(t, "parted")
		for router := range count {
			if got := net.routeTo(router, net8(1+count)).Metric; got != 16 {
				t.Errorf("router %d: metric %d of what is not reached", router, got)
			}
		}
	}
}

// Two links between the same routers are two neighbours.
func TestP10TwoLinksBetweenTwo(t *testing.T) {
	net := makeNetwork(t, ownOnes(2), join{0, 1, 9}, join{0, 1, 2}, join{1, 0, 5})
	rng := rand.New(rand.NewSource(6))
	for _, which := range []int{1, 2, 0} {
		net.settle(t, rng, 0)
		net.check(t, "two links")
		net.part(t, which)
	}
	net.settle(t, rng, 0)
	net.check(t, "parted")
}

// What two routers have of their own is as far as the nearer one.
func TestP10TwoHaveThePrefix(t *testing.T) {
	own := ownOnes(7)
	own[0] = append(own[0], net8(200))
	own[6] = append(own[6], net8(200))
	rng := rand.New(rand.NewSource(7))
	makeNetwork(t, own, ring(7, 2)...).partAll(t, "two have it", rng, 0)
}

func TestP10SixtyPrefixes(t *testing.T) {
	own := [][]api.Prefix{nets8(1, 20), nets8(21, 20), nets8(41, 20), nil}
	rng := rand.New(rand.NewSource(8))
	makeNetwork(t, own, ring(4, 3)...).partAll(t, "60 prefixes", rng, 0)
}

// Time that passes between makes nothing too old that is told of, and forgets what is not reached.
func TestP10WhileTimePasses(t *testing.T) {
	rng := rand.New(rand.NewSource(9))
	for _, ticks := range []int{1, 30, 89, 90, 119} {
		makeNetwork(t, ownOnes(6), ring(6, 2)...).partAll(t, fmt.Sprint(ticks, " ticks"), rng, ticks)
		makeNetwork(t, ownOnes(5), mesh(5, 1)...).partAll(t, fmt.Sprint(ticks, " ticks"), rng, ticks)
	}
}

func randomJoins(rng *rand.Rand, routers int) []join {
	var l []join
	neighbours := make([]int, routers)
	for range rng.Intn(3 * routers) {
		a, b := rng.Intn(routers), rng.Intn(routers)
		if a == b || neighbours[a] == 8 || neighbours[b] == 8 {
			continue
		}
		neighbours[a]++
		neighbours[b]++
		l = append(l, join{a, b, 1 + rng.Intn(6)})
	}
	return l
}

func TestP10RandomNetworks(t *testing.T) {
	rng := rand.New(rand.NewSource(10))
	for n := range 60 {
		routers := 2 + rng.Intn(8)
		net := makeNetwork(t, ownOnes(routers), randomJoins(rng, routers)...)
		net.partAll(t, fmt.Sprint("network ", n), rng, rng.Intn(40))
	}
}

// Where nothing goes down, what is due alone comes to the same.
func TestP8ByWhatIsDueAlone(t *testing.T) {
	rng := rand.New(rand.NewSource(11))
	for n := range 60 {
		routers := 2 + rng.Intn(8)
		net := makeNetwork(t, ownOnes(routers), randomJoins(rng, routers)...)
		net.tellDue(t)
		net.check(t, fmt.Sprint("network ", n, " by what is due"))
	}
}

// tellDue lets all tell what is due till nothing is.
func (net *network) tellDue(t *testing.T) {
	t.Helper()
	for range 1000 {
		quiet := true
		for from, r := range net.routers {
			if outs := r.Due(); len(outs) > 0 {
				quiet = false
				net.send(t, from, outs)
			}
		}
		if quiet {
			return
		}
	}
	t.Errorf("something is due again and again")
}

func TestP10WhatEncodeWritesDecodeReads(t *testing.T) {
	rng := rand.New(rand.NewSource(12))
	wantDecoded(t, askAll, api.Packet{Command: api.Request})
	for range 2000 {
		checkEncode(t, response(smallEntries(rng)...))
	}
	r := full(t)
	for _, out := range r.Update() {
		checkDecode(t, out.Data)
		if _, err := milepost.Decode(out.Data); err != nil {
			t.Errorf("what is told is no packet: %v", err)
		}
	}
}
