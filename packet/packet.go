// Package packet: packets as bytes, and what may be wrong with them.
package packet

import "milepost/api"

const (
	headSize  = 4
	entrySize = 20
	minSize   = headSize + entrySize
	maxSize   = headSize + api.MaxEntries*entrySize
	family    = 2
	maxTag    = 65535
	noEntry   = -1
)

const (
	responseHead = "\x02\x02\x00\x00"
	// askAll is whole, since there is but one Request.
	askAll = "\x01\x02\x00\x00" +
		"\x00\x00\x00\x00\x00\x00\x00\x00\x00\x00\x00\x00\x00\x00\x00\x00\x00\x00\x00\x10"
)

// fault answers an error, not a *api.Fault, so that no nil pointer passes for an error.
func fault(e api.Errno, entry int) error {
	return &api.Fault{Err: e, Entry: entry}
}

func isMetric(n int) bool {
	return n >= 1 && n <= api.Infinity
}

func isTag(n int) bool {
	return n >= 0 && n <= maxTag
}
