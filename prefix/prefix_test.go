package prefix

import (
	"math"
	"testing"

	"milepost/api"
)

// maskOf counts the mask's bits out one by one, so that it owes nothing to Mask.
func maskOf(length int) uint32 {
	var mask uint32
	for bit := range length {
		mask |= 1 << (31 - bit)
	}
	return mask
}

func TestMaskOfEachLength(t *testing.T) {
	for length := range 33 {
		if got := Mask(api.Prefix{Len: length}); got != maskOf(length) {
			t.Errorf("Mask of length %d = %08x, want %08x", length, got, maskOf(length))
		}
	}
}

func TestIsAtEachLengthAndBit(t *testing.T) {
	for length := range 33 {
		if !Is(api.Prefix{Len: length}) || !Is(api.Prefix{Addr: maskOf(length), Len: length}) {
			t.Errorf("length %d: no prefix", length)
		}
		for bit := range 32 {
			p := api.Prefix{Addr: 1 << (31 - bit), Len: length}
			if got, want := Is(p), bit < length; got != want {
				t.Errorf("Is(%v) = %v, want %v", p, got, want)
			}
		}
	}
}

func TestIsNotAtOtherLengths(t *testing.T) {
	for _, length := range []int{-1, 33, -32, 64, 256, math.MinInt, math.MaxInt} {
		for _, addr := range []uint32{0, 1, 0x0a000000, math.MaxUint32} {
			if p := (api.Prefix{Addr: addr, Len: length}); Is(p) {
				t.Errorf("Is(%v)", p)
			}
		}
	}
}

func TestOfEachMask(t *testing.T) {
	for length := range 33 {
		want := api.Prefix{Addr: maskOf(length), Len: length}
		if got, ok := Of(want.Addr, maskOf(length)); !ok || got != want {
			t.Errorf("Of(%08x, %08x) = %v, %v", want.Addr, maskOf(length), got, ok)
		}
		for bit := length; bit < 32; bit++ {
			if got, ok := Of(1<<(31-bit), maskOf(length)); ok || got != (api.Prefix{}) {
				t.Errorf("length %d, address bit %d: Of = %v, %v", length, bit, got, ok)
			}
		}
	}
}

func TestOfWhatIsNoMask(t *testing.T) {
	isMask := map[uint32]int{}
	for length := range 33 {
		isMask[maskOf(length)]++
	}
	for length := range 33 {
		for bit := range 32 {
			mask := maskOf(length) ^ 1<<(31-bit)
			if isMask[mask] > 0 {
				continue
			}
			if got, ok := Of(0, mask); ok || got != (api.Prefix{}) {
				t.Errorf("Of(0, %08x) = %v, %v", mask, got, ok)
			}
		}
	}
}
