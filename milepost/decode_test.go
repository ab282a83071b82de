package milepost_test

import (
	"slices"
	"strings"
	"testing"

	"milepost/api"
	"milepost/milepost"
)

func TestP3Response(t *testing.T) {
	wantDecoded(t, responseHead+goodText, response(good))
	last := raw{family: 2, tag: 65535, addr: 0xffffffff, mask: 0xffffffff, metric: 16}
	first := raw{family: 2, metric: 1}
	wantDecoded(t, responseHead+last.bytes()+first.bytes()+goodText, response(
		api.Entry{Prefix: api.Prefix{Addr: 0xffffffff, Len: 32}, Tag: 65535, Metric: 16},
		api.Entry{Metric: 1},
		good,
	))
	// Each byte another one, so that none is taken for its neighbour.
	bytes := raw{family: 2, tag: 0x0102, addr: 0x03040506, mask: 0xfffffffe, metric: 7}
	wantDecoded(t, responseHead+bytes.bytes(), response(
		api.Entry{Prefix: api.Prefix{Addr: 0x03040506, Len: 31}, Tag: 0x0102, Metric: 7}))
}

func TestP3RequestForAll(t *testing.T) {
	wantDecoded(t, askAll, api.Packet{Command: api.Request})
}

func TestP3EachNumberOfEntries(t *testing.T) {
	for n := 1; n <= 25; n++ {
		data := responseHead + strings.Repeat(goodText, n)
		wantDecoded(t, data, response(slices.Repeat([]api.Entry{good}, n)...))
	}
}

func TestP3EachLength(t *testing.T) {
	for length := range 33 {
		mask := maskOf(length)
		data := responseHead + raw{family: 2, addr: mask, mask: mask, metric: 1}.bytes()
		wantDecoded(t, data, response(api.Entry{Prefix: api.Prefix{Addr: mask, Len: length}, Metric: 1}))
	}
}

func TestP3EachMetric(t *testing.T) {
	for metric := range uint32(300) {
		r := goodRaw
		r.metric = metric
		data := responseHead + r.bytes()
		if metric < 1 || metric > 16 {
			wantDecodeFault(t, data, api.ErrMetric, 0)
			continue
		}
		e := good
		e.Metric = int(metric)
		wantDecoded(t, data, response(e))
	}
	for _, metric := range []uint32{0x103, 0x10003, 0x1000003, 0x7fffffff, 0x80000000, 0x80000003, 0xfffffff3, 0xffffffff} {
		r := goodRaw
		r.metric = metric
		wantDecodeFault(t, responseHead+r.bytes(), api.ErrMetric, 0)
	}
}

func TestP3EachTag(t *testing.T) {
	for tag := range 65536 {
		r, e := goodRaw, good
		r.tag, e.Tag = uint16(tag), tag
		wantDecoded(t, responseHead+r.bytes(), response(e))
	}
}

func TestP3EachSize(t *testing.T) {
	whole := responseHead + strings.Repeat(goodText, 30)
	for size := range len(whole) + 1 {
		if size >= 24 && size <= 504 && (size-4)%20 == 0 {
			wantDecoded(t, whole[:size], response(slices.Repeat([]api.Entry{good}, (size-4)/20)...))
			continue
		}
		wantDecodeFault(t, whole[:size], api.ErrSize, -1)
	}
	wantDecodeFault(t, responseHead+strings.Repeat(goodText, 10000), api.ErrSize, -1)
}

func TestP3EachHead(t *testing.T) {
	for at := range 4 {
		for b := range 256 {
			head := []byte(responseHead)
			head[at] = byte(b)
			if string(head) == responseHead {
				continue
			}
			wantDecodeFault(t, string(head)+goodText, api.ErrHead, -1)
			wantDecodeFault(t, string(head)+strings.Repeat(goodText, 25), api.ErrHead, -1)
		}
	}
}

func TestP3EveryOtherRequest(t *testing.T) {
	for at := range len(askAll) {
		for bit := range 8 {
			data := []byte(askAll)
			data[at] ^= 1 << bit
			wantDecodeFault(t, string(data), api.ErrHead, -1)
		}
	}
	wantDecodeFault(t, requestHead+goodText, api.ErrHead, -1)
	wantDecodeFault(t, askAll+goodText, api.ErrHead, -1)
	wantDecodeFault(t, askAll+askAll[4:], api.ErrHead, -1)
	wantDecodeFault(t, requestHead+raw{family: 2, metric: 16}.bytes(), api.ErrHead, -1)
	// What asks for all in a Request is an entry of another family in a Response.
	wantDecodeFault(t, responseHead+askAll[4:], api.ErrFamily, 0)
}

func TestP3WrongFamily(t *testing.T) {
	for _, family := range []uint16{0, 1, 3, 0x0102, 0x0200, 0x0202, 0xffff} {
		r := goodRaw
		r.family = family
		wantDecodeFault(t, responseHead+r.bytes(), api.ErrFamily, 0)
	}
}

func TestP3WrongPrefix(t *testing.T) {
	for _, mask := range []uint32{1, 2, 0x7fffffff, 0x00ffffff, 0xff00ff00, 0xfffffffd, 0xbfffffff, 0x40000000} {
		wantDecodeFault(t, responseHead+raw{family: 2, mask: mask, metric: 1}.bytes(), api.ErrPrefix, 0)
		wantDecodeFault(t, responseHead+raw{family: 2, addr: mask, mask: mask, metric: 1}.bytes(), api.ErrPrefix, 0)
	}
	for length := range 33 {
		for bit := length; bit < 32; bit++ {
			r := raw{family: 2, addr: 1 << (31 - bit), mask: maskOf(length), metric: 1}
			wantDecodeFault(t, responseHead+r.bytes(), api.ErrPrefix, 0)
		}
	}
}

func TestP3WrongHop(t *testing.T) {
	for bit := range 32 {
		r := goodRaw
		r.hop = 1 << bit
		wantDecodeFault(t, responseHead+r.bytes(), api.ErrHop, 0)
	}
}

// entryFaults are an entry's errors in the order in which P3 names them, and how to make each.
var entryFaults = []struct {
	errno api.Errno
	spoil func(r *raw)
}{
	{api.ErrFamily, func(r *raw) { r.family = 1 }},
	{api.ErrPrefix, func(r *raw) { r.addr = 0x0a000001 }},
	{api.ErrHop, func(r *raw) { r.hop = 1 }},
	{api.ErrMetric, func(r *raw) { r.metric = 17 }},
}

func TestP3OrderWithinAnEntry(t *testing.T) {
	for set := 1; set < 1<<len(entryFaults); set++ {
		r := goodRaw
		var want api.Errno
		for i, f := range entryFaults {
			if set>>i&1 == 0 {
				continue
			}
			f.spoil(&r)
			if want == 0 {
				want = f.errno
			}
		}
		wantDecodeFault(t, responseHead+goodText+r.bytes(), want, 1)
	}
}

func TestP3FirstWrongEntry(t *testing.T) {
	for at := range 25 {
		for _, first := range entryFaults {
			for _, later := range entryFaults {
				a, b := goodRaw, goodRaw
				first.spoil(&a)
				later.spoil(&b)
				data := responseHead + strings.Repeat(goodText, at) + a.bytes() + strings.Repeat(b.bytes(), 24-at)
				wantDecodeFault(t, data, first.errno, at)
			}
		}
	}
}

func TestP3SizeThenHeadThenEntries(t *testing.T) {
	bad := raw{family: 9, mask: 1, hop: 1}.bytes()
	for _, head := range []string{"\x00\x00\x00\x00", requestHead, responseHead, "\x03\x02\x00\x00", "\x02\x02\x00\x01"} {
		wantDecodeFault(t, head, api.ErrSize, -1)
		wantDecodeFault(t, head+bad[:19], api.ErrSize, -1)
		wantDecodeFault(t, head+bad+"\x00", api.ErrSize, -1)
		wantDecodeFault(t, head+strings.Repeat(bad, 26), api.ErrSize, -1)
		if head != responseHead {
			wantDecodeFault(t, head+bad, api.ErrHead, -1)
		}
	}
}

func TestP2DecodedListsShareNothing(t *testing.T) {
	data := responseHead + goodText + goodText
	a, _ := milepost.Decode(data)
	b, _ := milepost.Decode(data)
	room := a.Entries[:cap(a.Entries)]
	for i := range room {
		room[i] = api.Entry{Tag: 99}
	}
	if !samePacket(b, response(good, good)) {
		t.Errorf("written into one list, another one is %v", b)
	}
	for _, e := range b.Entries[len(b.Entries):cap(b.Entries)] {
		if e.Tag == 99 {
			t.Error("two lists share their spare room")
		}
	}
	wantDecoded(t, data, response(good, good))
}
