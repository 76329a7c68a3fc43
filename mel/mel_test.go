package mel_test

import (
	"math"
	"math/big"
	"slices"
	"testing"

	"earshot/fft"
	"earshot/mel"
)

const (
	least    = math.MinInt
	greatest = math.MaxInt
	far      = 1 << 30
)

// highs are all that lie anywhere, written out.
var highs = []int{
	0, 43, 82, 117, 149, 179, 206, 232, 256, 278, 299, 319, 338, 356, 373, 390, 405, 420, 435, 449, 462, 475, 488, 500, 512, 523, 534, 545, 555, 565, 575, 585, 594,
	603, 612, 621, 629, 637, 646, 653, 661, 669, 676, 684, 691, 698, 705, 712, 718, 725, 731, 737, 744, 750, 756, 762, 768, 773, 779, 784, 790, 795, 801, 806, 811,
}

// chance tells numbers that look as if by chance, of so many bits at most and a sign, the same ones of each seed.
func chance(seed, bits int) func() int {
	x := uint64(seed)*2 + 1
	return func() int {
		x = x*6364136223846793005 + 1442695040888963407
		return int(x^x>>29) >> (63 - bits)
	}
}

// made is a row of n numbers, one by one.
func made(n int, number func(i int) int) []int {
	row := make([]int, n)
	for i := range row {
		row[i] = number(i)
	}
	return row
}

// number is a number of any length.
func number(x int) *big.Int {
	return big.NewInt(int64(x))
}

// product is one, in numbers of any length.
func product(a, b *big.Int) *big.Int {
	return new(big.Int).Mul(a, b)
}

// less is a difference, in numbers of any length.
func less(a, b int) *big.Int {
	return new(big.Int).Sub(number(a), number(b))
}

// goneRound is a number of any length, at 64 bits.
func goneRound(x *big.Int) int {
	all := new(big.Int).Lsh(big.NewInt(1), 64)
	x = new(big.Int).Mod(x, all)
	if x.Bit(63) == 1 {
		x.Sub(x, all)
	}
	return int(x.Int64())
}

// whole is the greatest number n times which is not above x, in numbers of any length.
func whole(x, n *big.Int) int {
	by := new(big.Int).Quo(x, n)
	if product(by, n).Cmp(x) > 0 {
		by.Sub(by, number(1))
	}
	return int(by.Int64())
}

// edged goes by the words of the chapter: of all bins the first one for which the words hold.
func edged(bins, bands int) []int {
	return made(bands+2, func(m int) int {
		return slices.IndexFunc(highs[:bins], func(high int) bool {
			return high*(bands+1) >= m*highs[bins-1]
		})
	})
}

// weighed goes by the words of the chapter, in numbers of any length.
func weighed(b, low, mid, top int) int {
	for _, x := range []int{b, low, mid, top} {
		if x < -far || x > far {
			return 0
		}
	}
	if b >= low && b < mid {
		return whole(product(number(256), less(b, low)), less(mid, low))
	}
	if b >= mid && b < top {
		return whole(product(number(256), less(top, b)), less(top, mid))
	}
	return 0
}

// banded goes by the words of the chapter, over all bins, in numbers of any length.
func banded(power, edges []int) []int {
	return made(max(0, len(edges)-2), func(m int) int {
		sum := new(big.Int)
		for b, x := range power {
			sum.Add(sum, product(number(x), number(weighed(b, edges[m], edges[m+1], edges[m+2]))))
		}
		return whole(number(goneRound(sum)), number(256))
	})
}

func wantRow(t *testing.T, what string, got, want []int) {
	t.Helper()
	if !slices.Equal(got, want) {
		t.Errorf("%s: %v, want %v", what, got, want)
	}
}

func wantEdges(t *testing.T, bins, bands int, want ...int) {
	t.Helper()
	if got := mel.Edges(bins, bands); !slices.Equal(got, want) {
		t.Errorf("Edges(%d, %d): %v, want %v", bins, bands, got, want)
	}
}

func wantWeight(t *testing.T, b, low, mid, top, want int) {
	t.Helper()
	if got := mel.Weight(b, low, mid, top); got != want {
		t.Errorf("Weight(%d, %d, %d, %d): %d, want %d", b, low, mid, top, got, want)
	}
}

func wantBands(t *testing.T, power, edges []int, want ...int) {
	t.Helper()
	if got := mel.Bands(power, edges...); !slices.Equal(got, want) {
		t.Errorf("Bands(%v, %v): %v, want %v", power, edges, got, want)
	}
}

// The chapter's two examples.
func TestExamples(t *testing.T) {
	wantWeight(t, 3, 2, 4, 8, 128)
	wantWeight(t, 5, 2, 4, 8, 192)
	wantEdges(t, 9, 1, 0, 4, 8)
}

// P11.1
func TestHigh(t *testing.T) {
	for b, want := range highs {
		if got := mel.High(b); got != want {
			t.Errorf("High(%d): %d, want %d", b, got, want)
		}
	}
	// Eight times some of these goes round at 64 bits, to where bins lie.
	for _, b := range []int{-1, -2, -7, -8, -9, -64, -65, 65, 66, 67, 128, 1000, 1 << 20, 1 << 31, -1 << 31, 1 << 60, 1 << 61, 1<<61 + 1, 1<<61 + 8, 1<<62 + 64, -1<<61 + 8, -1 << 61, least, least + 1, least + 8, greatest, greatest - 7} {
		if got := mel.High(b); got != 0 {
			t.Errorf("High(%d): %d", b, got)
		}
	}
}

// P11.1: High is 256 times the logarithm of 1 and b by 8; what the digits cut off is less than 1, and what their squares cut off may be one more.
func TestHighIsALogarithm(t *testing.T) {
	for b := range 65 {
		want := 256 * math.Log2(1+float64(b)/8)
		if got := float64(mel.High(b)); got > want+1e-9 || got <= want-2 {
			t.Errorf("High(%d): %v, where the logarithm is %v", b, got, want)
		}
	}
}

// P11.1
func TestEdgesWrittenOut(t *testing.T) {
	wantEdges(t, 2, 1, 0, 1, 1)
	wantEdges(t, 2, 2, 0, 1, 1, 1)
	wantEdges(t, 2, 16, 0, 1, 1, 1, 1, 1, 1, 1, 1, 1, 1, 1, 1, 1, 1, 1, 1, 1)
	wantEdges(t, 3, 1, 0, 1, 2)
	wantEdges(t, 9, 4, 0, 2, 3, 5, 6, 8)
	wantEdges(t, 9, 16, 0, 1, 1, 2, 2, 2, 3, 3, 4, 4, 5, 5, 6, 6, 7, 7, 8, 8)
	wantEdges(t, 17, 8, 0, 2, 3, 4, 6, 7, 9, 11, 14, 16)
	// Bin 8 lies just as high as half of what bin 24 does.
	wantEdges(t, 25, 1, 0, 8, 24)
	wantEdges(t, 33, 8, 0, 2, 4, 6, 9, 12, 16, 20, 26, 32)
	wantEdges(t, 65, 1, 0, 17, 64)
	wantEdges(t, 65, 8, 0, 3, 6, 9, 14, 20, 27, 37, 49, 64)
	wantEdges(t, 65, 16, 0, 2, 3, 4, 6, 8, 10, 12, 15, 18, 22, 26, 30, 35, 41, 48, 56, 64)
}

// P11.1: each two that may be.
func TestEdgesByTheWordsOfTheChapter(t *testing.T) {
	for bins := 2; bins <= 65; bins++ {
		for bands := 1; bands <= 16; bands++ {
			wantEdges(t, bins, bands, edged(bins, bands)...)
		}
	}
}

// P11.1, R1: of bins or bands that may not be there is nothing.
func TestEdgesThatMayNotBe(t *testing.T) {
	for _, bins := range []int{least, least + 1, least + 9, -1 << 32, -65, -9, -2, -1, 0, 1, 66, 67, 130, 1000, 1<<32 + 9, 1<<62 + 9, greatest - 1, greatest} {
		for _, bands := range []int{least, -1, 0, 1, 4, 16, 17, greatest} {
			wantEdges(t, bins, bands)
		}
	}
	for _, bands := range []int{least, least + 1, least + 4, -1 << 32, -16, -4, -2, -1, 0, 17, 18, 32, 1000, 1<<32 + 4, 1<<62 + 4, greatest - 1, greatest} {
		for _, bins := range []int{least, -1, 1, 2, 3, 9, 64, 65, 66, greatest} {
			wantEdges(t, bins, bands)
		}
	}
}

// P11.2
func TestWeightWrittenOut(t *testing.T) {
	for _, c := range []struct {
		low, mid, top, from int
		want                []int
	}{
		{2, 4, 8, 0, []int{0, 0, 0, 128, 256, 192, 128, 64, 0, 0}},
		{2, 4, 7, 1, []int{0, 0, 128, 256, 170, 85, 0, 0}},
		{0, 3, 4, -1, []int{0, 0, 85, 170, 256, 0, 0}},
		{0, 1, 2, -1, []int{0, 0, 256, 0, 0}},
		{-3, 0, 7, -4, []int{0, 0, 85, 170, 256, 219, 182, 146, 109, 73, 36, 0, 0}},
		{-9, -8, -6, -10, []int{0, 0, 256, 128, 0, 0}},
		{0, 600, 601, 0, []int{0, 0, 0, 1, 1, 2}}, {0, 600, 601, 598, []int{255, 255, 256, 0}}, {0, 1, 601, 599, []int{0, 0, 0}}, {0, 1, 601, 597, []int{1, 1, 0}},
		// Of edges that are the same one side is empty, or both.
		{4, 4, 8, 2, []int{0, 0, 256, 192, 128, 64, 0, 0}}, {2, 4, 4, 0, []int{0, 0, 0, 128, 0, 0}}, {3, 3, 3, 1, []int{0, 0, 0, 0, 0}}, {3, 5, 3, 1, []int{0, 0, 0, 128, 0, 0}},
		// Of edges that fall what the words hold of is left.
		{8, 4, 2, 0, []int{0, 0, 0, 0, 0, 0, 0, 0, 0, 0}}, {6, 3, 7, 1, []int{0, 0, 256, 192, 128, 64, 0, 0}}, {2, 8, 4, 0, []int{0, 0, 0, 42, 85, 128, 170, 213, 0, 0}},
		{9, 2, 4, 0, []int{0, 0, 256, 128, 0, 0}}, {4, 6, 1, 0, []int{0, 0, 0, 0, 0, 128, 0}}, {5, 1, 5, 0, []int{0, 256, 192, 128, 64, 0, 0}}, {5, 3, 3, 1, []int{0, 0, 0, 0, 0, 0}}, {3, 3, 1, 0, []int{0, 0, 0, 0, 0}},
	} {
		for i, want := range c.want {
			wantWeight(t, c.from+i, c.low, c.mid, c.top, want)
		}
	}
}

// P11.2: all of small numbers, whatever their order.
func TestWeightByTheWordsOfTheChapter(t *testing.T) {
	for low := -2; low <= 8; low++ {
		for mid := -2; mid <= 8; mid++ {
			for top := -2; top <= 8; top++ {
				for b := -4; b <= 10; b++ {
					wantWeight(t, b, low, mid, top, weighed(b, low, mid, top))
				}
			}
		}
	}
	for bits := range 64 {
		next := chance(bits, bits)
		for range 400 {
			low, mid, top := next(), next(), next()
			for _, b := range []int{next(), low - 1, low, low + 1, mid - 1, mid, mid + 1, top - 1, top, top + 1} {
				wantWeight(t, b, low, mid, top, weighed(b, low, mid, top))
				row := []int{low, mid, top}
				slices.Sort(row)
				wantWeight(t, b, row[0], row[1], row[2], weighed(b, row[0], row[1], row[2]))
			}
		}
	}
}

// P11.2: at the ends, and one beyond each, for each of the four.
func TestWeightAtTheEnds(t *testing.T) {
	for _, c := range []struct{ b, low, mid, top, want int }{
		{0, -far, 0, far, 256}, {1, -far, 0, far, 255}, {-1, -far, 0, far, 255}, {-far, -far, 0, far, 0}, {far, -far, 0, far, 0}, {far - 1, -far, 0, far, 0}, {far / 2, -far, 0, far, 128}, {-far / 4, -far, 0, far, 192},
		{far - 1, -far, far, far, 255}, {0, -far, far, far, 128}, {0, -far, far, -far, 128}, {0, -far, -far, far, 128}, {-far, -far, -far, far, 256}, {-far, far, -far, far, 256}, {0, far, -far, far, 128}, {far, far, far, far, 0}, {-far, -far, -far, -far, 0},
		{-far, 0, -far, -far + 4, 256}, {-far + 1, 0, -far, -far + 4, 192}, {far - 1, 0, far - 4, far, 64}, {far, 0, far, far, 0},
		{0, -far - 1, 0, far, 0}, {0, -far, 0, far + 1, 0}, {0, -far, far + 1, far, 0}, {0, -far, -far - 1, far, 0}, {-far - 1, -far - 1, 0, 1, 0}, {-far - 1, 0, -far - 1, 1, 0}, {far + 1, 0, far + 1, far + 2, 0},
		{1, 0, 2, far, 128}, {1, 0, 2, far + 1, 0}, {1, 0, 2, -far, 128}, {1, 0, 2, -far - 1, 0}, {1, far, 0, 2, 128}, {1, far + 1, 0, 2, 0}, {1, -far, 0, 2, 128}, {1, -far - 1, 0, 2, 0},
		{1, 0, greatest, 3, 0}, {1, least, 0, 2, 0}, {1, 0, 2, greatest, 0}, {1, 0, 2, least, 0}, {1, greatest, 0, 2, 0}, {0, least, 0, greatest, 0}, {least, least, 0, greatest, 0}, {least, 0, least, greatest, 0}, {greatest, least, 0, greatest, 0},
		{greatest - 1, 0, greatest - 1, greatest, 0}, {1 << 32, 0, 1 << 32, 1 << 33, 0}, {-1 << 32, -1 << 33, -1 << 32, 0, 0}, {1<<32 + 3, 2, 4, 8, 0}, {3, 1<<32 + 2, 4, 8, 0},
	} {
		wantWeight(t, c.b, c.low, c.mid, c.top, c.want)
	}
	ends := []int{least, least + 1, -1 << 32, -far - 1, -far, -far + 1, -1, 0, 1, far - 1, far, far + 1, 1 << 32, greatest - 1, greatest}
	for _, b := range ends {
		for _, low := range ends {
			for _, mid := range ends {
				for _, top := range ends {
					wantWeight(t, b, low, mid, top, weighed(b, low, mid, top))
				}
			}
		}
	}
}

// P11.3
func TestBandsWrittenOut(t *testing.T) {
	power := []int{9, 10, 20, 30}
	for _, c := range []struct{ power, edges, want []int }{
		{power, nil, nil}, {power, []int{}, nil}, {power, []int{1}, nil}, {power, []int{0, 3}, nil}, {nil, nil, nil}, {nil, []int{0, 2}, nil},
		{power, []int{0, 1, 3}, []int{20}}, {power, []int{0, 1, 3, 4}, []int{20, 40}}, {power, []int{0, 1, 2, 3, 4}, []int{10, 20, 30}}, {power, []int{0, 2, 3, 3}, []int{25, 0}},
		// Of no power there is nothing in each band.
		{nil, []int{0, 1, 3}, []int{0}}, {[]int{}, []int{0, 1, 3, 4, 9}, []int{0, 0, 0}}, {[]int{0, 0, 0}, []int{0, 1, 3, 4}, []int{0, 0}},
		// Without what is left, of sums above 0 and below.
		{[]int{0, 1}, []int{0, 2, 3}, []int{0}}, {[]int{0, -1}, []int{0, 2, 3}, []int{-1}}, {[]int{0, 3}, []int{0, 2, 3}, []int{1}}, {[]int{0, -3}, []int{0, 2, 3}, []int{-2}}, {[]int{0, 2}, []int{0, 2, 3}, []int{1}}, {[]int{0, -2}, []int{0, 2, 3}, []int{-1}},
		{[]int{0, 1, 1}, []int{0, 3, 4}, []int{0}}, {[]int{0, -1, -1}, []int{0, 3, 4}, []int{-1}}, {[]int{0, 2, 2}, []int{0, 3, 4}, []int{1}}, {[]int{0, 100, -100}, []int{0, 3, 4}, []int{-34}}, {[]int{-9, -10, -20, -30}, []int{0, 1, 3, 4}, []int{-20, -40}},
		// Edges beyond the last bin, below 0, the same, and falling.
		{power, []int{0, 2, 40}, []int{54}}, {power, []int{0, 40, 80}, []int{3}}, {power, []int{4, 5, 6}, []int{0}}, {power, []int{3, 4, 5}, []int{0}}, {power, []int{2, 3, 5}, []int{30}},
		{power, []int{-1, 0, 2}, []int{14}}, {power, []int{-3, -2, -1}, []int{0}}, {power, []int{-2, -1, 1}, []int{4}}, {power, []int{-2, 2, 4}, []int{47}}, {power, []int{-100, 100, 200}, []int{35}},
		{power, []int{2, 2, 2}, []int{0}}, {power, []int{2, 2, 4}, []int{35}}, {power, []int{0, 2, 2}, []int{5}}, {power, []int{0, 0, 0, 0, 0}, []int{0, 0, 0}}, {power, []int{1, 3, 1}, []int{10}},
		{power, []int{4, 2, 0}, []int{0}}, {power, []int{3, 1, 4}, []int{33}}, {power, []int{0, 4, 2}, []int{35}}, {power, []int{4, 3, 2, 1, 0}, []int{0, 0, 0}},
		// Bounds of what is weighed by.
		{power, []int{-far, 1, 3}, []int{28}}, {power, []int{-far - 1, 1, 3}, []int{0}}, {power, []int{0, 1, far}, []int{59}}, {power, []int{0, 1, far + 1}, []int{0}}, {power, []int{far, 1, 3}, []int{20}}, {power, []int{far + 1, 1, 3}, []int{0}},
		{power, []int{least, 1, 3}, []int{0}}, {power, []int{0, greatest, 3}, []int{0}}, {power, []int{0, 1, greatest}, []int{0}}, {power, []int{least, least, greatest, greatest}, []int{0, 0}}, {power, []int{0, least, 3}, []int{0}}, {power, []int{greatest, 0, least}, []int{0}},
		{power, []int{0, 1, 3, greatest, 1, 3}, []int{20, 0, 0, 0}},
	} {
		wantBands(t, c.power, c.edges, c.want...)
	}
}

// P11.3: all goes round at 64 bits, ahead of the division by 256.
func TestBandsGoRound(t *testing.T) {
	for _, c := range []struct{ power, edges, want []int }{
		{[]int{0, 1 << 55}, []int{0, 1, 2}, []int{-1 << 55}}, {[]int{0, 1<<55 - 1}, []int{0, 1, 2}, []int{1<<55 - 1}}, {[]int{0, 1 << 56}, []int{0, 1, 2}, []int{0}}, {[]int{0, 1<<56 + 7}, []int{0, 1, 2}, []int{7}},
		{[]int{0, -1 << 55}, []int{0, 1, 2}, []int{-1 << 55}}, {[]int{0, -1<<55 - 1}, []int{0, 1, 2}, []int{1<<55 - 1}}, {[]int{0, greatest}, []int{0, 1, 2}, []int{-1}}, {[]int{0, least}, []int{0, 1, 2}, []int{0}}, {[]int{0, least + 1}, []int{0, 1, 2}, []int{1}},
		// Each product fits, and the sum does not.
		{[]int{0, 1 << 54, 1 << 54, 1 << 54}, []int{1, 1, 1 << 20}, []int{3<<54 - (1<<54>>8)*2 - 1<<56}},
		{[]int{0, 1 << 55, 1 << 55}, []int{0, 2, 4}, []int{-1 << 54}},
		// 128 times the greatest number is -128, and 256 does not go into that.
		{[]int{0, greatest}, []int{0, 2, 3}, []int{-1}}, {[]int{0, greatest, 1}, []int{0, 2, 3}, []int{0}}, {[]int{0, least}, []int{0, 2, 3}, []int{0}}, {[]int{0, 1 << 56}, []int{0, 2, 3}, []int{-1 << 55}},
	} {
		wantBands(t, c.power, c.edges, c.want...)
	}
}

// P11.3: rows of any size, edges in any order, numbers of any size, by the words of the chapter.
func TestBandsByTheWordsOfTheChapter(t *testing.T) {
	for _, n := range []int{0, 1, 2, 3, 9, 33, 65, 100} {
		for _, bits := range []int{1, 8, 16, 31, 54, 55, 56, 60, 63} {
			next := chance(100*n+bits, bits)
			power := made(n, func(int) int { return next() })
			for _, reach := range []int{2, 4, 7, 29, 30, 31, 63} {
				near := chance(n+reach, reach)
				for edges := range 8 {
					row := made(edges, func(int) int { return near() })
					wantBands(t, power, row, banded(power, row)...)
					slices.Sort(row)
					wantBands(t, power, row, banded(power, row)...)
					slices.Reverse(row)
					wantBands(t, power, row, banded(power, row)...)
				}
			}
		}
	}
}

// P11.3: with edges as Edges tells them, of powers as fft tells them.
func TestBandsOfEdgesAndPowers(t *testing.T) {
	for _, n := range []int{16, 32, 64} {
		for bands := 1; bands <= 16; bands++ {
			edges := mel.Edges(n/2+1, bands)
			for _, bits := range []int{3, 15} {
				next := chance(n+bands, bits)
				re, im, _ := fft.Bins(made(n, func(int) int { return next() })...)
				power := fft.Power(re, im)
				got := mel.Bands(power, edges...)
				wantRow(t, "bands of sound", got, banded(power, edges))
				if len(got) != bands {
					t.Errorf("%d bands of %d edges", len(got), len(edges))
				}
			}
		}
	}
}

// P11.3, R5: long rows are answered, too; where edges stand one by one, a band is the power at its middle.
func TestLongRows(t *testing.T) {
	const long = 1 << 18
	power := made(long, func(b int) int { return b*b - 7*b })
	edges := made(long, func(b int) int { return b })
	wantRow(t, "a long row's bands", mel.Bands(power, edges...), power[1:long-1])
	wantRow(t, "a long row's one band", mel.Bands(power, long-2, long-1, long), power[long-1:])
	if got := mel.Bands(nil, edges...); len(got) != long-2 || slices.Max(got) != 0 || slices.Min(got) != 0 {
		t.Errorf("of no power, %d bands", len(got))
	}
}

// P11.4
func TestEdgesRise(t *testing.T) {
	for bins := 2; bins <= 65; bins++ {
		for bands := 1; bands <= 16; bands++ {
			row := mel.Edges(bins, bands)
			if len(row) != bands+2 || row[0] != 0 || row[bands+1] != bins-1 || !slices.IsSorted(row) {
				t.Errorf("Edges(%d, %d): %v", bins, bands, row)
			}
		}
	}
}

// wantBoth asks that, of four edges, both weights come to 256, or to 255, of bins from the second edge up to, without, the third.
func wantBoth(t *testing.T, edges []int, bins ...int) {
	t.Helper()
	for _, b := range bins {
		falls, rises := mel.Weight(b, edges[0], edges[1], edges[2]), mel.Weight(b, edges[1], edges[2], edges[3])
		if both := falls + rises; both != 256 && both != 255 || falls < 0 || rises < 0 {
			t.Errorf("bin %d of the edges %v: %d and %d", b, edges, falls, rises)
		}
	}
}

// P11.4
func TestBothWeightsAreOne(t *testing.T) {
	for bins := 2; bins <= 65; bins++ {
		for bands := 2; bands <= 16; bands++ {
			row := mel.Edges(bins, bands)
			for m := range bands - 1 {
				four := row[m : m+4]
				wantBoth(t, four, made(four[2]-four[1], func(i int) int { return four[1] + i })...)
			}
		}
	}
	for _, reach := range []int{1, 3, 8, 12, 20, 29, 30} {
		next := chance(reach, reach)
		for range 300 {
			four := made(4, func(int) int { return next() })
			slices.Sort(four)
			wide := four[2] - four[1]
			if wide > 0 {
				wantBoth(t, four, four[1], four[1]+wide/3, four[1]+wide/2, four[2]-1)
			}
		}
	}
}

// R3: what is handed in stays as it is, behind its end too.
func TestRowsStayAsTheyWere(t *testing.T) {
	for _, n := range []int{0, 1, 2, 3, 4, 9, 33} {
		power := made(n+3, func(i int) int { return 5 - i*i })
		edges := made(n+3, func(i int) int { return i*7%5 - 1 })
		wasPower, wasEdges := slices.Clone(power), slices.Clone(edges)
		mel.Bands(power[:n], edges[:n]...)
		mel.Bands(power[:n], power[:n]...)
		wantRow(t, "powers that were handed in", power, wasPower)
		wantRow(t, "edges that were handed in", edges, wasEdges)
	}
}

// R3: what is told is the caller's own: it shares nothing with what was handed in, nor with what is told again.
func TestWhatIsToldIsTheCallersOwn(t *testing.T) {
	power, edges := []int{9, 10, 20, 30}, []int{0, 1, 3, 4}
	for _, told := range []func() []int{
		func() []int { return mel.Edges(9, 4) },
		func() []int { return mel.Edges(65, 16) },
		func() []int { return mel.Bands(power, edges...) },
		func() []int { return mel.Bands(edges, edges...) },
	} {
		row := told()
		want := slices.Clone(row)
		again := told()
		for i := range row {
			row[i] = 77
		}
		_ = append(row, 78, 79)
		wantRow(t, "a row that was told ahead of it", again, want)
		wantRow(t, "a row that is told behind it", told(), want)
		wantRow(t, "powers that were handed in", power, []int{9, 10, 20, 30})
		wantRow(t, "edges that were handed in", edges, []int{0, 1, 3, 4})
	}
	row := mel.Bands(power, edges...)
	power[1], edges[1] = 99, 2
	wantRow(t, "bands that were told, once the powers and edges are others", row, []int{20, 40})
}
