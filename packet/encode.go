package packet

import (
	"slices"

	"milepost/api"
	"milepost/prefix"
)

// Encode writes a packet.
func Encode(p api.Packet) (string, error) {
	if err := check(p); err != nil {
		return "", err
	}
	if p.Command == api.Request {
		return askAll, nil
	}
	return writeResponse(p.Entries), nil
}

// Responses writes the packets that it takes to tell of all entries, each but the last one full. The entries must be right ones.
func Responses(entries []api.Entry) []string {
	var packets []string
	for part := range slices.Chunk(entries, api.MaxEntries) {
		packets = append(packets, writeResponse(part))
	}
	return packets
}

func writeResponse(entries []api.Entry) string {
	data := make([]byte, 0, headSize+len(entries)*entrySize)
	data = append(data, responseHead...)
	for _, e := range entries {
		data = appendEntry(data, e)
	}
	return string(data)
}

func check(p api.Packet) error {
	switch {
	case p.Command == api.Request && len(p.Entries) == 0:
		return nil
	case p.Command != api.Response:
		return fault(api.ErrHead, noEntry)
	case len(p.Entries) == 0 || len(p.Entries) > api.MaxEntries:
		return fault(api.ErrSize, noEntry)
	}
	for i, e := range p.Entries {
		if err := checkEntry(e, i); err != nil {
			return err
		}
	}
	return nil
}

func checkEntry(e api.Entry, number int) error {
	switch {
	case !prefix.Is(e.Prefix):
		return fault(api.ErrPrefix, number)
	case !isTag(e.Tag):
		return fault(api.ErrFamily, number)
	case !isMetric(e.Metric):
		return fault(api.ErrMetric, number)
	}
	return nil
}

func appendEntry(data []byte, e api.Entry) []byte {
	data = appendShort(data, family)
	data = appendShort(data, uint16(e.Tag))
	data = appendWord(data, e.Prefix.Addr)
	data = appendWord(data, prefix.Mask(e.Prefix))
	data = appendWord(data, 0)
	return appendWord(data, uint32(e.Metric))
}

func appendShort(data []byte, n uint16) []byte {
	return append(data, byte(n>>8), byte(n))
}

func appendWord(data []byte, n uint32) []byte {
	return appendShort(appendShort(data, uint16(n>>16)), uint16(n))
}
