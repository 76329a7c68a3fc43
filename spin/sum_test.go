package spin

import (
	"slices"
	"testing"
)

// kindOfOwn is a kind that is not one of the language's own names.
type kindOfOwn int16

// Ways: rows of numbers of any kind are added, each kind going round at its own ends.
func TestSumOfOtherKinds(t *testing.T) {
	if got := sum([]int8{127, -128, 1}, []int8{1, -1, 2}); !slices.Equal(got, []int8{-128, 127, 3}) {
		t.Errorf("sum of 8 bits with a sign: %v", got)
	}
	if got := sum([]uint8{255, 0, 1}, []uint8{1, 7, 2}, []uint8{0, 0, 253}); !slices.Equal(got, []uint8{0, 7, 0}) {
		t.Errorf("sum of 8 bits without a sign: %v", got)
	}
	if got := sum([]uint64{1<<64 - 1, 5}, []uint64{2, 6}); !slices.Equal(got, []uint64{1, 11}) {
		t.Errorf("sum of 64 bits without a sign: %v", got)
	}
	if got := sum([]kindOfOwn{32767}, []kindOfOwn{1}); !slices.Equal(got, []kindOfOwn{-32768}) {
		t.Errorf("sum of a kind of its own: %v", got)
	}
	if got := sum([]int32{1, 2}, []int32{1}); len(got) != 0 {
		t.Errorf("sum of rows whose sizes differ: %v", got)
	}
	if got := sum[uint16](); len(got) != 0 {
		t.Errorf("sum of no row: %v", got)
	}
}
