package prefix

import (
	"math"
	"testing"

	"milepost/api"
)

// maskOf counts the mask's bits out one by one, so that it owes nothing to Mask.
func maskOf(length int) uint32 {
	var mask uint32
	for bit := range length {
		mask |= 1 << (31 - bit)
	}
	return mask
}

func TestMaskOfEachLength(t *testing.T) {
	for length := range 33 {
		if got := Mask(api.Prefix{Len: length}); got != maskOf(length) {
			t.Errorf("Mask of length %d = %08x, want %08x", length, got, maskOf(length))
		}
	}
}

func TestIsAtEachLengthAndBit(t *testing.T) {
	for length := range 33 {
		if !Is(api.Prefix{Len: length}) || !Is(api.Prefix{Addr: maskOf(length), Len: length}) {
			t.Errorf("length %d: no prefix", length)
		}
		for bit := range 32 {
			p := api.Prefix{Addr: 1 << (31 - bit), Len: length}
			if got, want := Is(p), bit < length; got != want {
				t.Errorf("Is(%v) = %v, want %v", p, got, want)
			}
		}
	}
}

func TestIsNotAtOtherLengths(t *testing.T) {
	for _, length := range []int{-1, 33, -32, 64, 256, math.MinInt, math.MaxInt} {
		for _, addr := range []uint32{0, 1, 0x0a000000, math.MaxUint32} {
			if p := (api.Prefix{Addr: addr, Len: length}); Is(p) {
				t.Errorf("Is(%v)", p)
			}
		}
	}
}

func TestOfEachMask(t *testing.T) {
	for length := range 33 {
		want := api.Prefix{Addr: maskOf(length), Len: length}
		if got, ok := Of(want.Addr, maskOf(length)); !ok || got != want {
			t.Errorf("Of(%08x, %08x) = %v, %v", want.Addr, maskOf(length), got, ok)
		}
		for bit := length; bit < 32; bit++ {
			if got, ok := Of(1<<(31-bit), maskOf(length)); ok || got != (api.Prefix{}) {
				t.Errorf("length %d, address bit %d: Of = %v, %v", length, bit, got, ok)
			}
		}
	}
}

func TestOfWhatIsNoMask(t *testing.T) {
	isMask := map[uint32]int{}
	for length := range 33 {
		isMask[maskOf(length)]++
	}
	for length := range 33 {
		for bit := range 32 {
			mask := maskOf(length) ^ 1<<(31-bit)
			if isMask[mask] > 0 {
				continue
			}
			if got, ok := Of(0, mask); ok || got != (api.Prefix{}) {
				t.Errorf("Of(0, %08x) = %v, %v", mask, got, ok)
			}
		}
	}
}

func TestHasAtEachLengthAndBit(t *testing.T) {
	const addr = 0x5aa5c33c
	for length := range 33 {
		p := api.Prefix{Addr: addr & maskOf(length), Len: length}
		if !Has(p, addr) || !Has(p, p.Addr) || !Has(p, p.Addr|^maskOf(length)) {
			t.Errorf("%v does not have its own addresses", p)
		}
		for bit := range 32 {
			other := uint32(addr) ^ 1<<(31-bit)
			if got, want := Has(p, other), bit >= length; got != want {
				t.Errorf("Has(%v, %08x) = %v, want %v", p, other, got, want)
			}
		}
	}
}

func TestCompare(t *testing.T) {
	inOrder := []api.Prefix{
		{Addr: 0, Len: 0}, {Addr: 0, Len: 1}, {Addr: 0, Len: 32}, {Addr: 1, Len: 32}, {Addr: 2, Len: 31}, {Addr: 2, Len: 32},
		{Addr: 0x7f000000, Len: 8}, {Addr: 0x80000000, Len: 1}, {Addr: 0x80000000, Len: 2}, {Addr: math.MaxUint32, Len: 32},
	}
	for i, a := range inOrder {
		for j, b := range inOrder {
			got := Compare(a, b)
			if (got < 0) != (i < j) || (got > 0) != (i > j) {
				t.Errorf("Compare(%v, %v) = %d", a, b, got)
			}
		}
	}
}
