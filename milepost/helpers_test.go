package milepost_test

import (
	"encoding/binary"
	"errors"
	"slices"
	"testing"

	"milepost/api"
	"milepost/milepost"
)

const (
	requestHead  = "\x01\x02\x00\x00"
	responseHead = "\x02\x02\x00\x00"
)

// raw is an entry's numbers as they stand in the bytes, right or wrong.
type raw struct {
	family, tag             uint16
	addr, mask, hop, metric uint32
}

func (r raw) bytes() string {
	b := binary.BigEndian.AppendUint16(nil, r.family)
	b = binary.BigEndian.AppendUint16(b, r.tag)
	for _, n := range []uint32{r.addr, r.mask, r.hop, r.metric} {
		b = binary.BigEndian.AppendUint32(b, n)
	}
	return string(b)
}

var (
	askAll   = requestHead + raw{metric: 16}.bytes()
	goodRaw  = raw{family: 2, tag: 5, addr: 0x0a000000, mask: 0xff000000, metric: 3}
	goodText = goodRaw.bytes()
	good     = api.Entry{Prefix: api.Prefix{Addr: 0x0a000000, Len: 8}, Tag: 5, Metric: 3}
)

func samePacket(a, b api.Packet) bool {
	return a.Command == b.Command && slices.Equal(a.Entries, b.Entries)
}

// wantFault asks all that is said of a packet's errors: the type, what errors.Is and errors.As find, the entry.
func wantFault(t *testing.T, what string, err error, errno api.Errno, entry int) {
	t.Helper()
	f, ok := err.(*api.Fault)
	if !ok || f == nil {
		t.Errorf("%s: error %v (%T), want a *api.Fault", what, err, err)
		return
	}
	if f.Err != errno || f.Entry != entry {
		t.Errorf("%s: error %d in entry %d, want %d in %d", what, f.Err, f.Entry, errno, entry)
	}
	var number api.Errno
	if !errors.Is(err, errno) || !errors.As(err, &number) || number != errno {
		t.Errorf("%s: errors.Is or errors.As does not find %d", what, errno)
	}
}

func wantDecoded(t *testing.T, data string, want api.Packet) {
	t.Helper()
	got, err := milepost.Decode(data)
	if err != nil || !samePacket(got, want) {
		t.Errorf("Decode(%x) = %v, %v, want %v", data, got, err, want)
	}
}

func wantDecodeFault(t *testing.T, data string, errno api.Errno, entry int) {
	t.Helper()
	got, err := milepost.Decode(data)
	wantFault(t, "Decode", err, errno, entry)
	if got.Command != 0 || len(got.Entries) != 0 {
		t.Errorf("Decode(%x) = %v beside an error", data, got)
	}
}

func wantEncoded(t *testing.T, p api.Packet, want string) {
	t.Helper()
	got, err := milepost.Encode(p)
	if err != nil || got != want {
		t.Errorf("Encode(%v) = %x, %v, want %x", p, got, err, want)
	}
}

func wantEncodeFault(t *testing.T, p api.Packet, errno api.Errno, entry int) {
	t.Helper()
	got, err := milepost.Encode(p)
	wantFault(t, "Encode", err, errno, entry)
	if got != "" {
		t.Errorf("Encode(%v) = %x beside an error", p, got)
	}
}

func response(entries ...api.Entry) api.Packet {
	return api.Packet{Command: api.Response, Entries: entries}
}

// maskOf counts the mask's bits out one by one.
func maskOf(length int) uint32 {
	var mask uint32
	for bit := range length {
		mask |= 1 << (31 - bit)
	}
	return mask
}
