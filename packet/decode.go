package packet

import (
	"milepost/api"
	"milepost/prefix"
)

// Where the parts of an entry begin.
const (
	familyAt = 0
	tagAt    = 2
	addrAt   = 4
	maskAt   = 8
	hopAt    = 12
	metricAt = 16
)

// Decode reads a packet.
func Decode(data string) (api.Packet, error) {
	if !isSize(len(data)) {
		return api.Packet{}, fault(api.ErrSize, noEntry)
	}
	if data == askAll {
		return api.Packet{Command: api.Request}, nil
	}
	// A wrong head and any other Request are one error, so one question does for both.
	if data[:headSize] != responseHead {
		return api.Packet{}, fault(api.ErrHead, noEntry)
	}
	entries, err := readEntries(data[headSize:])
	if err != nil {
		return api.Packet{}, err
	}
	return api.Packet{Command: api.Response, Entries: entries}, nil
}

func isSize(n int) bool {
	return n >= minSize && n <= maxSize && (n-headSize)%entrySize == 0
}

func readEntries(data string) ([]api.Entry, error) {
	entries := make([]api.Entry, len(data)/entrySize)
	for i := range entries {
		e, err := readEntry(data[i*entrySize:(i+1)*entrySize], i)
		if err != nil {
			return nil, err
		}
		entries[i] = e
	}
	return entries, nil
}

func readEntry(data string, number int) (api.Entry, error) {
	if short(data, familyAt) != family {
		return api.Entry{}, fault(api.ErrFamily, number)
	}
	p, ok := prefix.Of(word(data, addrAt), word(data, maskAt))
	if !ok {
		return api.Entry{}, fault(api.ErrPrefix, number)
	}
	if word(data, hopAt) != 0 {
		return api.Entry{}, fault(api.ErrHop, number)
	}
	metric := int(word(data, metricAt))
	if !isMetric(metric) {
		return api.Entry{}, fault(api.ErrMetric, number)
	}
	return api.Entry{Prefix: p, Tag: int(short(data, tagAt)), Metric: metric}, nil
}

func short(data string, at int) uint16 {
	return uint16(data[at])<<8 | uint16(data[at+1])
}

func word(data string, at int) uint32 {
	return uint32(short(data, at))<<16 | uint32(short(data, at+2))
}
