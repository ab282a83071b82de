package tell

import (
	"testing"

	"milepost/api"
	"milepost/packet"
	"milepost/table"
)

func net8(n int) api.Prefix { return api.Prefix{Addr: uint32(n) << 24, Len: 8} }

func TestToEachItsMetrics(t *testing.T) {
	routes := table.Start([]api.Prefix{net8(30)}).
		Heard(0, 1, []api.Entry{{Prefix: net8(20), Tag: 5, Metric: 3}}).
		Heard(2, 4, []api.Entry{{Prefix: net8(40), Tag: 6, Metric: 11}, {Prefix: net8(10), Metric: 1}}).
		Heard(2, 4, []api.Entry{{Prefix: net8(10), Metric: 16}})
	for neighbour, metrics := range [][]int{{16, 16, 1, 15}, {16, 4, 1, 15}, {16, 4, 1, 16}} {
		want, err := packet.Encode(api.Packet{Command: api.Response, Entries: []api.Entry{
			{Prefix: net8(10), Metric: metrics[0]},
			{Prefix: net8(20), Tag: 5, Metric: metrics[1]},
			{Prefix: net8(30), Metric: metrics[2]},
			{Prefix: net8(40), Tag: 6, Metric: metrics[3]},
		}})
		if err != nil {
			t.Fatal(err)
		}
		got := To(neighbour, routes)
		if len(got) != 1 || got[0] != (api.Out{To: neighbour, Data: want}) {
			t.Errorf("to %d: %x, want %x", neighbour, got, want)
		}
	}
}

func TestToOfNothing(t *testing.T) {
	if got := To(0, table.Start(nil)); len(got) != 0 {
		t.Errorf("of nothing: %x", got)
	}
}
