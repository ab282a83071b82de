package milepost_test

import (
	"errors"
	"fmt"

	"milepost/api"
	"milepost/milepost"
)

func ExampleEncode() {
	data, err := milepost.Encode(api.Packet{Command: api.Response, Entries: []api.Entry{
		{Prefix: api.Prefix{Addr: 0x0a000000, Len: 8}, Tag: 5, Metric: 3},
	}})
	fmt.Printf("% x %v\n", data, err)
	// Output: 02 02 00 00 00 02 00 05 0a 00 00 00 ff 00 00 00 00 00 00 00 00 00 00 03 <nil>
}

func ExampleEncode_wrong() {
	_, err := milepost.Encode(api.Packet{Command: api.Response, Entries: []api.Entry{
		{Prefix: api.Prefix{Addr: 0x0a000001, Len: 8}, Tag: 5, Metric: 3},
	}})
	var fault *api.Fault
	fmt.Println(errors.Is(err, api.ErrPrefix), errors.As(err, &fault), fault.Entry)
	// Output: true true 0
}

func ExampleDecode() {
	p, err := milepost.Decode("\x02\x02\x00\x00" +
		"\x00\x02\x00\x05\x0a\x00\x00\x00\xff\x00\x00\x00\x00\x00\x00\x00\x00\x00\x00\x03")
	fmt.Println(p, err)
	// Output: {2 [{{167772160 8} 5 3}]} <nil>
}
