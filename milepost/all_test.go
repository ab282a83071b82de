package milepost_test

import (
	"math"
	"math/rand"
	"runtime"
	"testing"
	"time"

	"milepost/api"
	"milepost/milepost"
)

// checkDecode asks what holds of Decode at all bytes: what it reads is what Encode writes, and beside an error is nothing.
func checkDecode(t *testing.T, data string) {
	t.Helper()
	p, err := milepost.Decode(data)
	if err == nil {
		wantEncoded(t, p, data)
		return
	}
	if _, ok := err.(*api.Fault); !ok || p.Command != 0 || len(p.Entries) != 0 {
		t.Errorf("Decode(%x) = %v, %v", data, p, err)
	}
}

// checkEncode asks what holds of Encode at all packets: what it writes is what Decode reads, and beside an error is nothing.
func checkEncode(t *testing.T, p api.Packet) {
	t.Helper()
	data, err := milepost.Encode(p)
	if err == nil {
		wantDecoded(t, data, p)
		return
	}
	if _, ok := err.(*api.Fault); !ok || data != "" {
		t.Errorf("Encode(%v) = %x, %v", p, data, err)
	}
}

// pick takes the edges more often than chance would.
func pick(rng *rand.Rand, edges ...int) int {
	if rng.Intn(4) == 0 {
		return int(rng.Uint64())
	}
	return edges[rng.Intn(len(edges))]
}

func randomEntry(rng *rand.Rand) api.Entry {
	length := pick(rng, 0, 1, 8, 24, 31, 32, rng.Intn(33), -1, 33, math.MinInt, math.MaxInt)
	addr := rng.Uint32()
	if length >= 0 && length <= 32 && rng.Intn(4) > 0 {
		addr &= maskOf(length)
	}
	return api.Entry{
		Prefix: api.Prefix{Addr: addr, Len: length},
		Tag:    pick(rng, 0, 65535, rng.Intn(65536), rng.Intn(65536), -1, 65536),
		Metric: pick(rng, 1, 16, 1+rng.Intn(16), 1+rng.Intn(16), 0, 17),
	}
}

func TestP1AllBytes(t *testing.T) {
	rng := rand.New(rand.NewSource(1))
	for range 20000 {
		data := make([]byte, rng.Intn(600))
		rng.Read(data)
		checkDecode(t, string(data))
	}
	whole := responseHead + goodText + raw{family: 2, tag: 65535, addr: 0xffffff00, mask: 0xffffff00, metric: 16}.bytes()
	for _, start := range []string{askAll, whole} {
		for at := range len(start) {
			for b := range 256 {
				data := []byte(start)
				data[at] = byte(b)
				checkDecode(t, string(data))
			}
		}
	}
}

func TestP1AllPackets(t *testing.T) {
	rng := rand.New(rand.NewSource(2))
	written := 0
	for range 50000 {
		p := api.Packet{Command: pick(rng, 1, 2, 2, 2, 2, 0, 3)}
		for range pick(rng, 0, 1, 1, 2, 3) & 31 {
			p.Entries = append(p.Entries, randomEntry(rng))
		}
		checkEncode(t, p)
		if _, err := milepost.Encode(p); err == nil {
			written++
		}
	}
	if written < 1000 {
		t.Errorf("only %d packets were right: the test has gone blind", written)
	}
}

// callAll calls everything that a router and its views have, with numbers and bytes right and wrong.
func callAll(rng *rand.Rand, r *milepost.Router) {
	number := func() int { return pick(rng, -1, 0, 0, 1, 1, 2, 7, 8, 120, 180, 1000, 1001, math.MinInt, math.MaxInt) }
	whole, _ := milepost.Encode(response(smallEntries(rng)...))
	broken := []byte(whole)
	broken[rng.Intn(len(broken))] = byte(number())
	r.Receive(number(), whole)
	r.Receive(number(), string(broken))
	r.Receive(number(), askAll)
	r.Tick(number())
	r.Down(number())
	r.Update()
	r.Due()
	v := r.View()
	v.Routes()
	v.Lookup(rng.Uint32())
	v.Lookup(uint32(number()))
}

// wantSound asks what holds of all routes, whatever was called.
func wantSound(t *testing.T, routes []api.Route, neighbours int) {
	t.Helper()
	if len(routes) > 60 {
		t.Errorf("%d routes", len(routes))
	}
	for _, x := range routes {
		data, err := milepost.Encode(response(api.Entry{Prefix: x.Prefix, Tag: x.Tag, Metric: x.Metric}))
		if err != nil || data == "" || x.From < api.Own || x.From >= neighbours {
			t.Errorf("a route that may not be: %v", x)
		}
	}
}

func TestP1AllRouters(t *testing.T) {
	rng := rand.New(rand.NewSource(4))
	learned := 0
	for range 300 {
		c := randomConfig(rng)
		r := newRouter(t, c.Costs, c.Own...)
		for range 50 {
			callAll(rng, r)
			wantSound(t, r.View().Routes(), len(c.Costs))
			learned += len(r.View().Routes()) - len(c.Own)
		}
	}
	if learned < 10000 {
		t.Errorf("only %d routes were learned: the test has gone blind", learned)
	}
}

func TestP1AllConfigs(t *testing.T) {
	rng := rand.New(rand.NewSource(6))
	made := 0
	for range 20000 {
		var c api.Config
		for range pick(rng, 0, 1, 2, 8, 9) & 15 {
			c.Costs = append(c.Costs, pick(rng, 1, 2, 3, 4, 5, 6, 7, 15, 0, 16))
		}
		for range pick(rng, 0, 1, 2, 20, 21) & 31 {
			c.Own = append(c.Own, randomEntry(rng).Prefix)
		}
		r, err := milepost.New(c)
		if (r == nil) != (err == api.ErrConfig) || (r != nil) != (err == nil) {
			t.Errorf("New(%v) = %v, %v", c, r, err)
		}
		if r != nil {
			made++
			wantSound(t, r.View().Routes(), len(c.Costs))
		}
	}
	if made < 500 {
		t.Errorf("only %d routers were made: the test has gone blind", made)
	}
}

func TestP1NoGoroutineIsLeft(t *testing.T) {
	before := runtime.NumGoroutine()
	for range 100 {
		milepost.Decode(responseHead + goodText)
		milepost.Decode("")
		milepost.Encode(response(good))
		milepost.Encode(response())
	}
	for range 100 {
		callAll(rand.New(rand.NewSource(3)), newRouter(t, []int{1, 2, 3}, net8(1)))
	}
	wantGoroutines(t, before)
}

// wantGoroutines gives those that are at their very end, and have told so, time to be counted no more.
func wantGoroutines(t *testing.T, before int) {
	t.Helper()
	for range 1000 {
		if runtime.NumGoroutine() <= before {
			return
		}
		time.Sleep(time.Millisecond)
	}
	t.Errorf("%d goroutines before, %d behind", before, runtime.NumGoroutine())
}

func FuzzDecode(f *testing.F) {
	f.Add("")
	f.Add(askAll)
	f.Add(responseHead + goodText)
	f.Add(responseHead + goodText + raw{family: 2, mask: 1, metric: 17}.bytes())
	f.Fuzz(checkDecode)
}

func FuzzEncode(f *testing.F) {
	f.Add(2, uint32(0x0a000000), 8, 5, 3)
	f.Add(1, uint32(0), 0, 0, 16)
	f.Add(2, uint32(1), -1, 65536, 0)
	f.Fuzz(func(t *testing.T, command int, addr uint32, length, tag, metric int) {
		e := api.Entry{Prefix: api.Prefix{Addr: addr, Len: length}, Tag: tag, Metric: metric}
		checkEncode(t, api.Packet{Command: command})
		checkEncode(t, api.Packet{Command: command, Entries: []api.Entry{e, e}})
	})
}
