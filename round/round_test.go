package round_test

import (
	"math"
	"math/big"
	"slices"
	"testing"

	"earshot/api"
	"earshot/round"
)

const (
	least    = math.MinInt
	greatest = math.MaxInt
)

func about(row []int, x int) []int {
	return append(row, x-1, x, x+1)
}

func sorted(row []int) []int {
	slices.Sort(row)
	return slices.Compact(row)
}

// edges are numbers about each power of 2 and each half of three of them, of both signs, and the ends of 64 bits.
func edges() []int {
	row := []int{100, -100, 1000003, -1000003, least, least + 1, least + 2, greatest, greatest - 1, greatest - 2}
	for k := range 63 {
		row = about(row, 1<<k)
		row = about(row, -1<<k)
	}
	for k := range 61 {
		row = about(row, 3<<k)
		row = about(row, -3<<k)
	}
	return sorted(row)
}

func few() []int {
	return []int{least, least + 1, -1 << 62, -1<<62 - 1, -129, -7, -3, -2, -1, 0, 1, 2, 3, 7, 128, 1<<62 - 1, 1 << 62, greatest - 1, greatest}
}

// divisors are those from 1 on.
func divisors() []int {
	row := []int{3, 5, 6, 7, 10, 100, 1000003, greatest, greatest - 1, greatest / 2, greatest/2 + 2}
	for k := range 63 {
		row = append(row, 1<<k, 1<<k+1)
	}
	return sorted(row)
}

func number(x int) *big.Int {
	return big.NewInt(int64(x))
}

func power(n int) *big.Int {
	return new(big.Int).Lsh(big.NewInt(1), uint(n))
}

// rounded is x by n, to the nearest, of two to the greater one: twice x and n, by twice n, without what is left.
func rounded(x, n *big.Int) *big.Int {
	up := new(big.Int).Add(new(big.Int).Lsh(x, 1), n)
	return up.Div(up, new(big.Int).Lsh(n, 1))
}

// off is twice as far as a whole number is from x by n, in nths.
func off(whole int, x, n *big.Int) *big.Int {
	far := new(big.Int).Mul(number(whole), n)
	far.Sub(far, x)
	return far.Abs(far).Lsh(far, 1)
}

func scaled(x, mult, shift int) int {
	whole := rounded(new(big.Int).Mul(number(x), number(mult)), power(shift))
	switch {
	case whole.Cmp(number(math.MinInt32)) < 0:
		return math.MinInt32
	case whole.Cmp(number(math.MaxInt32)) > 0:
		return math.MaxInt32
	}
	return int(whole.Int64())
}

func mean(xs []int) int {
	sum := new(big.Int)
	for _, x := range xs {
		sum.Add(sum, number(x))
	}
	if len(xs) == 0 || !sum.IsInt64() {
		return 0
	}
	return int(rounded(sum, number(len(xs))).Int64())
}

func wantMean(t *testing.T, xs ...int) {
	t.Helper()
	if got, want := round.Mean(xs...), mean(xs); got != want {
		t.Errorf("Mean%v: %d, want %d", xs, got, want)
	}
}

// P2.1
func TestHalfWrittenOut(t *testing.T) {
	for _, c := range []struct{ x, n, want int }{
		{-3, 1, -1}, {3, 1, 2}, {5, 1, 3}, {-5, 1, -2}, {1, 1, 1}, {-1, 1, 0}, {2, 1, 1}, {-2, 1, -1},
		{5, 2, 1}, {6, 2, 2}, {7, 2, 2}, {-5, 2, -1}, {-6, 2, -1}, {-7, 2, -2}, {-8, 2, -2},
		{0, 0, 0}, {7, 0, 7}, {-7, 0, -7}, {least, 0, least}, {greatest, 0, greatest},
		{least, 1, -1 << 62}, {least + 1, 1, -1<<62 + 1}, {greatest, 1, 1 << 62}, {greatest - 1, 1, 1<<62 - 1},
		{least, 62, -2}, {greatest, 62, 2}, {1 << 62, 62, 1}, {-1 << 62, 62, -1},
		{1 << 61, 62, 1}, {1<<61 - 1, 62, 0}, {-1 << 61, 62, 0}, {-1<<61 - 1, 62, -1},
		{3 << 61, 62, 2}, {3<<61 - 1, 62, 1}, {-3 << 61, 62, -1}, {-3<<61 - 1, 62, -2},
	} {
		if got := round.Half(c.x, c.n); got != c.want {
			t.Errorf("Half(%d, %d): %d, want %d", c.x, c.n, got, c.want)
		}
	}
}

// P2.1
func TestHalf(t *testing.T) {
	for n := 0; n <= 62; n++ {
		for _, x := range edges() {
			if got, want := round.Half(x, n), rounded(number(x), power(n)); want.Cmp(number(got)) != 0 {
				t.Errorf("Half(%d, %d): %d, want %d", x, n, got, want)
			}
		}
	}
}

// P2.1
func TestHalfByWrongShifts(t *testing.T) {
	for _, n := range []int{-1, -2, -62, -64, 63, 64, 65, 126, 128, least, greatest} {
		for _, x := range few() {
			if got := round.Half(x, n); got != 0 {
				t.Errorf("Half(%d, %d): %d, want 0", x, n, got)
			}
		}
	}
}

// P2.1
func TestDivWrittenOut(t *testing.T) {
	for _, c := range []struct{ x, n, want, whole, left int }{
		{-7, 2, -3, -4, 1}, {7, 2, 4, 3, 1}, {10, 4, 3, 2, 2}, {-10, 4, -2, -3, 2}, {-1, 8, 0, -1, 7},
		{4, 3, 1, 1, 1}, {5, 3, 2, 1, 2}, {-4, 3, -1, -2, 2}, {-5, 3, -2, -2, 1}, {-6, 3, -2, -2, 0},
		{0, 1, 0, 0, 0}, {-9, 1, -9, -9, 0}, {0, greatest, 0, 0, 0},
		{least, 1, least, least, 0}, {greatest, 1, greatest, greatest, 0},
		{least, 2, -1 << 62, -1 << 62, 0}, {greatest, 2, 1 << 62, 1<<62 - 1, 1},
		{greatest, greatest, 1, 1, 0}, {least, greatest, -1, -2, greatest - 1}, {least + 1, greatest, -1, -1, 0},
		{greatest - 1, greatest, 1, 0, greatest - 1}, {-1, greatest, 0, -1, greatest - 1},
		{greatest / 2, greatest, 0, 0, greatest / 2}, {greatest/2 + 1, greatest, 1, 0, greatest/2 + 1},
		{greatest / 2, greatest - 1, 1, 0, greatest / 2}, {-(greatest / 2), greatest - 1, 0, -1, greatest / 2},
	} {
		if got := round.Div(c.x, c.n); got != c.want {
			t.Errorf("Div(%d, %d): %d, want %d", c.x, c.n, got, c.want)
		}
		if whole, left := round.Parts(c.x, c.n); whole != c.whole || left != c.left {
			t.Errorf("Parts(%d, %d): %d, %d, want %d, %d", c.x, c.n, whole, left, c.whole, c.left)
		}
	}
}

// P2.1
func TestDivAndParts(t *testing.T) {
	for _, n := range divisors() {
		for _, x := range edges() {
			if got, want := round.Div(x, n), rounded(number(x), number(n)); want.Cmp(number(got)) != 0 {
				t.Errorf("Div(%d, %d): %d, want %d", x, n, got, want)
			}
			wantWhole, wantLeft := new(big.Int).DivMod(number(x), number(n), new(big.Int))
			whole, left := round.Parts(x, n)
			if wantWhole.Cmp(number(whole)) != 0 || wantLeft.Cmp(number(left)) != 0 {
				t.Errorf("Parts(%d, %d): %d, %d, want %d, %d", x, n, whole, left, wantWhole, wantLeft)
			}
		}
	}
}

// P2.1
func TestDivByWrongNumbers(t *testing.T) {
	for _, n := range []int{0, -1, -2, -7, -1 << 62, least + 1, least} {
		for _, x := range edges() {
			if got := round.Div(x, n); got != 0 {
				t.Errorf("Div(%d, %d): %d, want 0", x, n, got)
			}
			if whole, left := round.Parts(x, n); whole != 0 || left != 0 {
				t.Errorf("Parts(%d, %d): %d, %d, want 0, 0", x, n, whole, left)
			}
		}
	}
}

// P2.2
func TestScaleWrittenOut(t *testing.T) {
	for _, c := range []struct{ x, mult, shift, want int }{
		{100, 16384, 15, 50}, {1000, 32767, 15, 1000}, {5, 3, 1, 8}, {-5, 3, 1, -7}, {1, 1, 1, 1}, {-1, 1, 1, 0},
		{1 << 40, 3, 30, 3072}, {-1 << 40, 3, 30, -3072},
		{7, 0, 0, 0}, {least, 0, 0, 0}, {greatest, 0, 30, 0},
		{7, 32767, 0, 229369}, {-7, 32767, 0, -229369},
		{math.MaxInt32, 1, 0, math.MaxInt32}, {math.MinInt32, 1, 0, math.MinInt32},
		{math.MaxInt32 + 1, 1, 0, math.MaxInt32}, {math.MinInt32 - 1, 1, 0, math.MinInt32},
		{1<<32 - 2, 1, 1, math.MaxInt32}, {1<<32 - 1, 1, 1, math.MaxInt32}, {-1<<32 - 1, 1, 1, math.MinInt32}, {-1<<32 + 1, 1, 1, math.MinInt32 + 1},
		{least, 2, 0, math.MinInt32}, {least, 32767, 30, math.MinInt32}, {greatest, 32767, 30, math.MaxInt32},
		{least, 1, 30, math.MinInt32}, {greatest, 1, 30, math.MaxInt32},
		{1 << 62, 2, 30, math.MaxInt32}, {1 << 62, 4, 30, math.MaxInt32}, {-1 << 62, 4, 30, math.MinInt32},
		{1 << 60, 32, 30, math.MaxInt32}, {-1 << 60, 32, 0, math.MinInt32}, // goes round to 0 in 64 bits
		{1 << 29, 1, 30, 1}, {1<<29 - 1, 1, 30, 0}, {-1 << 29, 1, 30, 0}, {-1<<29 - 1, 1, 30, -1},
	} {
		if got := round.Scale(c.x, c.mult, c.shift); got != c.want {
			t.Errorf("Scale(%d, %d, %d): %d, want %d", c.x, c.mult, c.shift, got, c.want)
		}
	}
}

// P2.2
func TestScale(t *testing.T) {
	for _, mult := range []int{0, 1, 2, 3, 5, 255, 256, 257, 16383, 16384, 16385, api.MaxMult - 1, api.MaxMult} {
		for shift := 0; shift <= api.MaxShift; shift++ {
			for _, x := range edges() {
				if got, want := round.Scale(x, mult, shift), scaled(x, mult, shift); got != want {
					t.Errorf("Scale(%d, %d, %d): %d, want %d", x, mult, shift, got, want)
				}
			}
		}
	}
}

// P2.2
func TestScaleByWrongNumbers(t *testing.T) {
	shifts := []int{-1, -2, -30, -64, api.MaxShift + 1, 32, 62, 63, 64, least, greatest}
	mults := []int{-1, -2, -32767, -32768, api.MaxMult + 1, 65536, least, greatest}
	for _, x := range few() {
		for _, shift := range shifts {
			for _, mult := range []int{0, 1, 3, api.MaxMult} {
				if got := round.Scale(x, mult, shift); got != 0 {
					t.Errorf("Scale(%d, %d, %d): %d, want 0", x, mult, shift, got)
				}
			}
		}
		for _, mult := range mults {
			for _, shift := range []int{0, 1, api.MaxShift, -1, api.MaxShift + 1} {
				if got := round.Scale(x, mult, shift); got != 0 {
					t.Errorf("Scale(%d, %d, %d): %d, want 0", x, mult, shift, got)
				}
			}
		}
	}
}

// P2.3
func TestMeanWrittenOut(t *testing.T) {
	for _, c := range []struct {
		xs   []int
		want int
	}{
		{nil, 0}, {[]int{}, 0}, {[]int{0}, 0}, {[]int{7}, 7}, {[]int{-7}, -7},
		{[]int{1, 2}, 2}, {[]int{-1, -2}, -1}, {[]int{4, 4, 5}, 4}, {[]int{4, 5, 5}, 5}, {[]int{-4, -4, -5}, -4}, {[]int{-4, -5, -5}, -5},
		{[]int{1, 2, 3, 4}, 3}, {[]int{-1, -2, -3, -4}, -2},
		{[]int{least}, least}, {[]int{greatest}, greatest}, {[]int{least, greatest}, 0}, {[]int{least, greatest, -2}, -1},
		{[]int{1 << 62, 1 << 62}, 0}, {[]int{greatest, 1}, 0}, {[]int{least, -1}, 0}, {[]int{least, least}, 0},
		{[]int{1 << 62, 1<<62 - 1}, 1 << 62}, {[]int{-1 << 62, -1 << 62}, -1 << 62},
		{[]int{greatest, greatest, least, least}, 0}, {[]int{greatest, 1, -1}, greatest / 3},
		{[]int{greatest, greatest, 2}, 0},
	} {
		if got := round.Mean(c.xs...); got != c.want {
			t.Errorf("Mean%v: %d, want %d", c.xs, got, c.want)
		}
	}
}

// P2.3
func TestMean(t *testing.T) {
	for _, a := range edges() {
		wantMean(t, a)
		for _, b := range edges() {
			wantMean(t, a, b)
		}
	}
	for _, a := range few() {
		for _, b := range few() {
			for _, c := range few() {
				wantMean(t, a, b, c)
				wantMean(t, a, b, c, -a)
			}
		}
	}
	for n := 1; n <= 300; n++ {
		row := make([]int, n)
		for i := range row {
			row[i] = i*i*7919%1009 - 504
		}
		wantMean(t, row...)
	}
}

// P2.4
func TestRoundedIsOffByHalfAtMost(t *testing.T) {
	for _, x := range edges() {
		for _, n := range divisors() {
			if off(round.Div(x, n), number(x), number(n)).Cmp(number(n)) > 0 {
				t.Errorf("Div(%d, %d): %d is off by more than half", x, n, round.Div(x, n))
			}
		}
		for n := 0; n <= 62; n++ {
			if off(round.Half(x, n), number(x), power(n)).Cmp(power(n)) > 0 {
				t.Errorf("Half(%d, %d): %d is off by more than half", x, n, round.Half(x, n))
			}
		}
		for shift := 0; shift <= api.MaxShift; shift++ {
			got := round.Scale(x, 21845, shift)
			clamped := got == math.MinInt32 || got == math.MaxInt32
			exact := new(big.Int).Mul(number(x), number(21845))
			if !clamped && off(got, exact, power(shift)).Cmp(power(shift)) > 0 {
				t.Errorf("Scale(%d, 21845, %d): %d is off by more than half", x, shift, got)
			}
		}
	}
}

// P2.4
func TestRoundingKeepsTheOrder(t *testing.T) {
	row := edges()
	for i := 1; i < len(row); i++ {
		x, y := row[i-1], row[i]
		for _, n := range divisors() {
			wholeX, leftX := round.Parts(x, n)
			wholeY, leftY := round.Parts(y, n)
			if wholeX > wholeY || wholeX == wholeY && leftX >= leftY {
				t.Errorf("Parts of %d and %d by %d: order lost", x, y, n)
			}
			if round.Div(x, n) > round.Div(y, n) {
				t.Errorf("Div of %d and %d by %d: order lost", x, y, n)
			}
		}
		for n := 0; n <= 62; n++ {
			if round.Half(x, n) > round.Half(y, n) {
				t.Errorf("Half of %d and %d by %d: order lost", x, y, n)
			}
		}
		for _, mult := range []int{0, 1, 3, 16384, api.MaxMult} {
			for shift := 0; shift <= api.MaxShift; shift++ {
				if round.Scale(x, mult, shift) > round.Scale(y, mult, shift) {
					t.Errorf("Scale of %d and %d by %d, %d: order lost", x, y, mult, shift)
				}
			}
		}
	}
}

// P2.4: where there is a sum.
func TestMeanIsWithinItsNumbers(t *testing.T) {
	for _, a := range few() {
		for _, b := range few() {
			for _, c := range few() {
				sum := new(big.Int).Add(number(a), number(b))
				if sum.Add(sum, number(c)); !sum.IsInt64() {
					continue
				}
				if got := round.Mean(a, b, c); got < min(a, b, c) || got > max(a, b, c) {
					t.Errorf("Mean(%d, %d, %d): %d is not within them", a, b, c, got)
				}
			}
		}
	}
	for _, x := range []int{-5, -1, 0, 1, 6} {
		for n := 1; n <= 50; n++ {
			if got := round.Mean(slices.Repeat([]int{x}, n)...); got != x {
				t.Errorf("Mean of %d times %d: %d", n, x, got)
			}
		}
	}
}

// R3
func TestRowsStayAsTheyAre(t *testing.T) {
	row := []int{greatest, 1, -1, least, 100}
	kept := slices.Clone(row)
	round.Mean(row...)
	if !slices.Equal(row, kept) {
		t.Errorf("row is now %v", row)
	}
}
