// Package prefix: which addresses and lengths, and which masks, are a prefix's; their order, and which addresses they have.
package prefix

import (
	"cmp"
	"math/bits"

	"milepost/api"
)

const maxLen = 32

// Is tells whether p is a prefix.
func Is(p api.Prefix) bool {
	// The length is asked first: Mask shifts by it.
	return p.Len >= 0 && p.Len <= maxLen && p.Addr&^Mask(p) == 0
}

// Mask is the mask of a prefix.
func Mask(p api.Prefix) uint32 {
	return ^uint32(0) << uint(maxLen-p.Len)
}

// Of makes the prefix of an address and a mask; false, if they are none's.
func Of(addr, mask uint32) (api.Prefix, bool) {
	p := api.Prefix{Addr: addr, Len: bits.LeadingZeros32(^mask)}
	if Mask(p) != mask || !Is(p) {
		return api.Prefix{}, false
	}
	return p, true
}

// Has tells whether an address is one that the prefix has.
func Has(p api.Prefix, addr uint32) bool {
	return addr&Mask(p) == p.Addr
}

// Compare is the order of prefixes: by address, then by length.
func Compare(a, b api.Prefix) int {
	return cmp.Or(cmp.Compare(a.Addr, b.Addr), cmp.Compare(a.Len, b.Len))
}
