package milepost_test

import (
	"errors"
	"fmt"

	"milepost/api"
	"milepost/milepost"
)

func ExampleEncode() {
	data, err := milepost.Encode(api.Packet{Command: api.Response, Entries: []api.Entry{
		{Prefix: api.Prefix{Addr: 0x0a000000, Len: 8}, Tag: 5, Metric: 3},
	}})
	fmt.Printf("% x %v\n", data, err)
	// Output: 02 02 00 00 00 02 00 05 0a 00 00 00 ff 00 00 00 00 00 00 00 00 00 00 03 <nil>
}

func ExampleEncode_wrong() {
	_, err := milepost.Encode(api.Packet{Command: api.Response, Entries: []api.Entry{
		{Prefix: api.Prefix{Addr: 0x0a000001, Len: 8}, Tag: 5, Metric: 3},
	}})
	var fault *api.Fault
	fmt.Println(errors.Is(err, api.ErrPrefix), errors.As(err, &fault), fault.Entry)
	// Output: true true 0
}

func ExampleDecode() {
	p, err := milepost.Decode("\x02\x02\x00\x00" +
		"\x00\x02\x00\x05\x0a\x00\x00\x00\xff\x00\x00\x00\x00\x00\x00\x00\x00\x00\x00\x03")
	fmt.Println(p, err)
	// Output: {2 [{{167772160 8} 5 3}]} <nil>
}

func ExampleRouter() {
	const ten, twenty = 10 << 24, 20 << 24
	r, err := milepost.New(api.Config{
		Costs: []int{1, 5},
		Own:   []api.Prefix{{Addr: ten, Len: 8}},
	})
	if err != nil {
		fmt.Println(err)
		return
	}
	for _, said := range []struct{ from, metric int }{{1, 2}, {0, 3}, {0, 16}, {1, 2}} {
		data, _ := milepost.Encode(api.Packet{Command: api.Response, Entries: []api.Entry{
			{Prefix: api.Prefix{Addr: twenty, Len: 8}, Metric: said.metric},
		}})
		if _, err := r.Receive(said.from, data); err != nil {
			fmt.Println(err)
		}
		learned := r.View().Routes()[1]
		fmt.Println("by", learned.From, "metric", learned.Metric)
	}
	found, err := r.View().Lookup(twenty + 0x010203)
	fmt.Println("by", found.From, "metric", found.Metric, err)
	_, err = r.View().Lookup(30 << 24)
	fmt.Println(errors.Is(err, api.ErrNone))
	// Output:
	// by 1 metric 7
	// by 0 metric 4
	// by 0 metric 16
	// by 1 metric 7
	// by 1 metric 7 <nil>
	// true
}

func ExampleRouter_Update() {
	r, err := milepost.New(api.Config{
		Costs: []int{1, 5},
		Own:   []api.Prefix{{Addr: 10 << 24, Len: 8}},
	})
	if err != nil {
		fmt.Println(err)
		return
	}
	for _, out := range r.Update() {
		fmt.Printf("to %d: % x\n", out.To, out.Data)
	}
	fmt.Println("due behind it:", len(r.Due()))
	// Output:
	// to 0: 02 02 00 00 00 02 00 00 0a 00 00 00 ff 00 00 00 00 00 00 00 00 00 00 01
	// to 1: 02 02 00 00 00 02 00 00 0a 00 00 00 ff 00 00 00 00 00 00 00 00 00 00 01
	// due behind it: 0
}

func ExampleRouter_Due() {
	r, err := milepost.New(api.Config{
		Costs: []int{1, 5},
		Own:   []api.Prefix{{Addr: 10 << 24, Len: 8}},
	})
	if err != nil {
		fmt.Println(err)
		return
	}
	r.Update()
	data, _ := milepost.Encode(api.Packet{Command: api.Response, Entries: []api.Entry{
		{Prefix: api.Prefix{Addr: 20 << 24, Len: 8}, Metric: 2},
	}})
	if _, err := r.Receive(1, data); err != nil {
		fmt.Println(err)
	}
	for _, out := range r.Due() {
		p, err := milepost.Decode(out.Data)
		fmt.Println("to", out.To, p.Entries, err)
	}
	fmt.Println("due behind it:", len(r.Due()))
	// Output:
	// to 0 [{{335544320 8} 0 7}] <nil>
	// to 1 [{{335544320 8} 0 16}] <nil>
	// due behind it: 0
}
