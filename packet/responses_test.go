package packet

import (
	"slices"
	"testing"

	"milepost/api"
)

func TestResponsesOfEachCount(t *testing.T) {
	var entries []api.Entry
	for n := range 61 {
		packets := Responses(entries)
		if len(packets) != (n+24)/25 {
			t.Errorf("%d entries: %d packets", n, len(packets))
		}
		var read []api.Entry
		for i, data := range packets {
			p, err := Decode(data)
			if err != nil || i < len(packets)-1 && len(p.Entries) != 25 {
				t.Errorf("%d entries, packet %d: %v, %v", n, i, p, err)
			}
			read = append(read, p.Entries...)
		}
		if !slices.Equal(read, entries) {
			t.Errorf("%d entries: read %v", n, read)
		}
		entries = append(entries, api.Entry{Prefix: api.Prefix{Addr: uint32(n) << 20, Len: 12}, Tag: n, Metric: 1 + n%16})
	}
}
