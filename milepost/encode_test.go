package milepost_test

import (
	"math"
	"slices"
	"strings"
	"testing"

	"milepost/api"
	"milepost/milepost"
)

func TestP4DocumentsExample(t *testing.T) {
	wantEncoded(t, response(good), "\x02\x02\x00\x00"+
		"\x00\x02\x00\x05\x0a\x00\x00\x00\xff\x00\x00\x00\x00\x00\x00\x00\x00\x00\x00\x03")
	bad := good
	bad.Prefix.Addr = 0x0a000001
	wantEncodeFault(t, response(bad), api.ErrPrefix, 0)
}

func TestP4RequestForAll(t *testing.T) {
	wantEncoded(t, api.Packet{Command: api.Request}, askAll)
	wantEncoded(t, api.Packet{Command: api.Request, Entries: []api.Entry{}}, askAll)
}

func TestP4EachNumberOfEntries(t *testing.T) {
	for n := range 60 {
		p := response(slices.Repeat([]api.Entry{good}, n)...)
		if n < 1 || n > 25 {
			wantEncodeFault(t, p, api.ErrSize, -1)
			continue
		}
		wantEncoded(t, p, responseHead+strings.Repeat(goodText, n))
	}
}

func TestP4EachLength(t *testing.T) {
	for length := range 33 {
		mask := maskOf(length)
		e := api.Entry{Prefix: api.Prefix{Addr: mask, Len: length}, Metric: 16}
		wantEncoded(t, response(e), responseHead+raw{family: 2, addr: mask, mask: mask, metric: 16}.bytes())
		for bit := length; bit < 32; bit++ {
			e.Prefix.Addr = 1 << (31 - bit)
			wantEncodeFault(t, response(good, e), api.ErrPrefix, 1)
		}
	}
	for _, length := range []int{-1, 33, 64, 256, 1 << 31, math.MinInt, math.MaxInt} {
		for _, addr := range []uint32{0, 0x0a000000} {
			e := api.Entry{Prefix: api.Prefix{Addr: addr, Len: length}, Metric: 1}
			wantEncodeFault(t, response(e), api.ErrPrefix, 0)
		}
	}
}

func TestP4EachMetric(t *testing.T) {
	for metric := 1; metric <= 16; metric++ {
		e, r := good, goodRaw
		e.Metric, r.metric = metric, uint32(metric)
		wantEncoded(t, response(e), responseHead+r.bytes())
	}
	for _, metric := range []int{0, 17, -1, -3, 256 + 3, 1<<32 + 3, math.MinInt, math.MaxInt} {
		e := good
		e.Metric = metric
		wantEncodeFault(t, response(e), api.ErrMetric, 0)
	}
}

func TestP4EachTag(t *testing.T) {
	for tag := range 65536 {
		e, r := good, goodRaw
		e.Tag, r.tag = tag, uint16(tag)
		wantEncoded(t, response(e), responseHead+r.bytes())
	}
	for _, tag := range []int{-1, 65536, 65536 + 5, 1<<32 + 5, math.MinInt, math.MaxInt} {
		e := good
		e.Tag = tag
		wantEncodeFault(t, response(e), api.ErrFamily, 0)
	}
}

func TestP4WrongCommand(t *testing.T) {
	for _, command := range []int{0, 3, -1, -2, 256 + 1, 256 + 2, 1<<32 + 2, math.MinInt, math.MaxInt} {
		for _, n := range []int{0, 1, 25, 26} {
			p := api.Packet{Command: command, Entries: slices.Repeat([]api.Entry{good}, n)}
			wantEncodeFault(t, p, api.ErrHead, -1)
		}
	}
	for _, n := range []int{1, 25, 26} {
		p := api.Packet{Command: api.Request, Entries: slices.Repeat([]api.Entry{good}, n)}
		wantEncodeFault(t, p, api.ErrHead, -1)
	}
	// The entry that a Request for all has in the bytes it does not have in the packet.
	wantEncodeFault(t, api.Packet{Command: api.Request, Entries: []api.Entry{{Metric: 16}}}, api.ErrHead, -1)
}

// packetFaults are an entry's errors in the order in which P4 names them, and how to make each.
var packetFaults = []struct {
	errno api.Errno
	spoil func(e *api.Entry)
}{
	{api.ErrPrefix, func(e *api.Entry) { e.Prefix.Len = 6 }},
	{api.ErrFamily, func(e *api.Entry) { e.Tag = 65536 }},
	{api.ErrMetric, func(e *api.Entry) { e.Metric = 0 }},
}

func TestP4OrderWithinAnEntry(t *testing.T) {
	for set := 1; set < 1<<len(packetFaults); set++ {
		e := good
		var want api.Errno
		for i, f := range packetFaults {
			if set>>i&1 == 0 {
				continue
			}
			f.spoil(&e)
			if want == 0 {
				want = f.errno
			}
		}
		wantEncodeFault(t, response(good, e), want, 1)
	}
}

func TestP4FirstWrongEntry(t *testing.T) {
	for at := range 25 {
		for _, first := range packetFaults {
			for _, later := range packetFaults {
				entries := slices.Repeat([]api.Entry{good}, 25)
				for i := at; i < 25; i++ {
					if i == at {
						first.spoil(&entries[i])
					} else {
						later.spoil(&entries[i])
					}
				}
				wantEncodeFault(t, response(entries...), first.errno, at)
			}
		}
	}
}

func TestP4HeadThenSizeThenEntries(t *testing.T) {
	bad := make([]api.Entry, 26)
	wantEncodeFault(t, api.Packet{Entries: bad}, api.ErrHead, -1)
	wantEncodeFault(t, api.Packet{Command: api.Request, Entries: bad}, api.ErrHead, -1)
	wantEncodeFault(t, api.Packet{Command: api.Response, Entries: bad}, api.ErrSize, -1)
}

func TestP2EncodeLeavesWhatItIsGiven(t *testing.T) {
	spare := api.Entry{Tag: 77, Metric: 7}
	for _, p := range []api.Packet{
		{Command: api.Response, Entries: []api.Entry{good, good, spare, spare}},
		{Command: api.Response, Entries: []api.Entry{good, {Tag: -1}, spare, spare}},
		{Command: api.Request, Entries: []api.Entry{good, good, spare, spare}},
	} {
		before := slices.Clone(p.Entries)
		whole := p.Entries
		p.Entries = whole[:2]
		milepost.Encode(p)
		if !slices.Equal(whole, before) {
			t.Errorf("Encode changed %v to %v", before, whole)
		}
	}
}

func TestP2EncodeKeepsNothing(t *testing.T) {
	entries := []api.Entry{good, good}
	first, _ := milepost.Encode(response(entries...))
	entries[0].Tag, entries[1].Metric = 9, 9
	if first != responseHead+goodText+goodText {
		t.Errorf("what was written is %x behind a change of the list", first)
	}
}
