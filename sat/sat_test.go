package sat_test

import (
	"math"
	"math/big"
	"slices"
	"testing"

	"earshot/sat"
)

var (
	least    = math.MinInt
	greatest = math.MaxInt
	wrong    = []int{0, -1, -64, 65, 66, 128, math.MinInt, math.MaxInt}
)

// edges are numbers about each power of 2, of both signs, and the ends of 64 bits.
func edges() []int {
	row := []int{0, 3, -3, 100, -100, 3037000499, 3037000500, -3037000499, -3037000500, 1000003, -1000003}
	for k := range 63 {
		p := 1 << k
		row = append(row, p-1, p, p+1, -p-1, -p, -p+1)
	}
	row = append(row, least, least+1, least+2, greatest, greatest-1, greatest-2)
	slices.Sort(row)
	return slices.Compact(row)
}

// few are fewer of them, for what is tried in threes.
func few() []int {
	return []int{least, least + 1, -1 << 62, -1<<62 - 1, -129, -128, -127, -2, -1, 0, 1, 2, 126, 127, 128, 1<<62 - 1, 1 << 62, greatest - 1, greatest}
}

func bigEnds(bits int) (low, high *big.Int) {
	p := new(big.Int).Lsh(big.NewInt(1), uint(bits-1))
	return new(big.Int).Neg(p), new(big.Int).Sub(p, big.NewInt(1))
}

func bigClamp(x *big.Int, bits int) *big.Int {
	low, high := bigEnds(bits)
	if x.Cmp(low) < 0 {
		return low
	}
	if x.Cmp(high) > 0 {
		return high
	}
	return x
}

func bigAdd(bits int, xs []int) int {
	total := big.NewInt(0)
	for _, x := range xs {
		total = bigClamp(new(big.Int).Add(total, big.NewInt(int64(x))), bits)
	}
	return int(total.Int64())
}

func bigSum(xs []int) (int, bool) {
	total := big.NewInt(0)
	for _, x := range xs {
		total.Add(total, big.NewInt(int64(x)))
	}
	if !total.IsInt64() {
		return 0, false
	}
	return int(total.Int64()), true
}

func wantSum(t *testing.T, xs ...int) {
	t.Helper()
	want, wantOK := bigSum(xs)
	if got, ok := sat.Sum(xs...); got != want || ok != wantOK {
		t.Errorf("Sum%v: %d %v, want %d %v", xs, got, ok, want, wantOK)
	}
}

func wantAdd(t *testing.T, bits int, xs ...int) {
	t.Helper()
	if got, want := sat.Add(bits, xs...), bigAdd(bits, xs); got != want {
		t.Errorf("Add(%d, %v): %d, want %d", bits, xs, got, want)
	}
}

// P1.1
func TestClamp(t *testing.T) {
	for _, c := range []struct{ x, low, high, want int }{
		{5, 1, 3, 3}, {0, 1, 3, 1}, {2, 1, 3, 2}, {1, 1, 3, 1}, {3, 1, 3, 3}, {4, 1, 3, 3},
		{7, 4, 4, 4}, {-7, 4, 4, 4},
		{2, 9, 1, 9}, {9, 9, 1, 1}, {10, 9, 1, 1}, {0, 9, 1, 9}, {8, 9, 1, 9},
		{least, least, greatest, least}, {greatest, least, greatest, greatest},
		{least, greatest, least, greatest}, {greatest, greatest, least, least},
		{greatest, least, least, least}, {least, greatest, greatest, greatest},
	} {
		if got := sat.Clamp(c.x, c.low, c.high); got != c.want {
			t.Errorf("Clamp(%d, %d, %d): %d, want %d", c.x, c.low, c.high, got, c.want)
		}
	}
}

// P1.1
func TestEndsOfBits(t *testing.T) {
	for bits := 1; bits <= 64; bits++ {
		low, high := bigEnds(bits)
		for _, x := range edges() {
			b := big.NewInt(int64(x))
			if got, want := sat.Fits(x, bits), b.Cmp(low) >= 0 && b.Cmp(high) <= 0; got != want {
				t.Errorf("Fits(%d, %d): %v, want %v", x, bits, got, want)
			}
			if got, want := sat.Sat(x, bits), int(bigClamp(b, bits).Int64()); got != want {
				t.Errorf("Sat(%d, %d): %d, want %d", x, bits, got, want)
			}
		}
	}
}

// P1.1
func TestEndsWrittenOut(t *testing.T) {
	for _, c := range []struct {
		x, bits int
		fits    bool
		sat     int
	}{
		{0, 1, true, 0}, {-1, 1, true, -1}, {1, 1, false, 0}, {-2, 1, false, -1},
		{127, 8, true, 127}, {128, 8, false, 127}, {-128, 8, true, -128}, {-129, 8, false, -128},
		{1<<62 - 1, 63, true, 1<<62 - 1}, {1 << 62, 63, false, 1<<62 - 1},
		{-1 << 62, 63, true, -1 << 62}, {-1<<62 - 1, 63, false, -1 << 62},
		{least, 64, true, least}, {greatest, 64, true, greatest},
		{least, 1, false, -1}, {greatest, 1, false, 0},
	} {
		if fits, x := sat.Fits(c.x, c.bits), sat.Sat(c.x, c.bits); fits != c.fits || x != c.sat {
			t.Errorf("%d in %d bits: %v %d, want %v %d", c.x, c.bits, fits, x, c.fits, c.sat)
		}
	}
}

// P1.1, P1.2
func TestWrongBits(t *testing.T) {
	for _, bits := range wrong {
		for _, x := range few() {
			if sat.Fits(x, bits) {
				t.Errorf("Fits(%d, %d): true", x, bits)
			}
			if got := sat.Sat(x, bits); got != 0 {
				t.Errorf("Sat(%d, %d): %d", x, bits, got)
			}
			if got := sat.Add(bits, x, 1); got != 0 {
				t.Errorf("Add(%d, %d, 1): %d", bits, x, got)
			}
		}
		if got := sat.Add(bits); got != 0 {
			t.Errorf("Add(%d): %d", bits, got)
		}
	}
}

// P1.2
func TestAddWrittenOut(t *testing.T) {
	for _, c := range []struct {
		bits int
		xs   []int
		want int
	}{
		{8, []int{100, 100, -1}, 126},
		{8, []int{-1, 100, 100}, 127},
		{8, []int{100, 100, -50, -200}, -123},
		{4, []int{3, 4, 5}, 7},
		{1, []int{1}, 0}, {1, []int{-1, -1, -1}, -1}, {1, []int{-5, 1, 1}, 0},
		{64, []int{greatest, 1, -1}, greatest - 1},
		{64, []int{least, -1, 1}, least + 1},
		{64, []int{greatest, least}, -1},
		{64, []int{-1, least, greatest}, -1},
		{8, []int{127, greatest, -1}, 126},
		{8, []int{-1, least, 1}, -127},
		{63, []int{greatest, greatest, least, 5}, -1<<62 + 5},
		{8, nil, 0}, {64, []int{}, 0},
	} {
		if got := sat.Add(c.bits, c.xs...); got != c.want {
			t.Errorf("Add(%d, %v): %d, want %d", c.bits, c.xs, got, c.want)
		}
	}
}

// P1.2
func TestAddOfThrees(t *testing.T) {
	for bits := 1; bits <= 64; bits++ {
		for _, a := range few() {
			for _, b := range few() {
				for _, c := range few() {
					wantAdd(t, bits, a, b, c)
				}
			}
		}
	}
}

// P1.2
func TestSumWrittenOut(t *testing.T) {
	for _, c := range []struct {
		xs   []int
		want int
		ok   bool
	}{
		{nil, 0, true}, {[]int{}, 0, true}, {[]int{0}, 0, true},
		{[]int{1, 2, 3}, 6, true}, {[]int{-1, -2, -3}, -6, true},
		{[]int{greatest}, greatest, true}, {[]int{least}, least, true},
		{[]int{greatest, 1}, 0, false}, {[]int{least, -1}, 0, false},
		{[]int{greatest, 1, -1}, greatest, true}, {[]int{least, -1, 1}, least, true},
		{[]int{greatest, greatest, least, least, 2}, 0, true},
		{[]int{least, least}, 0, false}, {[]int{least, least, greatest, greatest}, -2, true},
		{[]int{greatest, greatest, 2}, 0, false}, // goes round to 0 in 64 bits
		{[]int{least, least, least, least}, 0, false},
	} {
		if got, ok := sat.Sum(c.xs...); got != c.want || ok != c.ok {
			t.Errorf("Sum%v: %d %v, want %d %v", c.xs, got, ok, c.want, c.ok)
		}
	}
}

// P1.2
func TestSumOfTwosAndThrees(t *testing.T) {
	for _, a := range edges() {
		for _, b := range edges() {
			wantSum(t, a, b)
		}
	}
	for _, a := range few() {
		for _, b := range few() {
			for _, c := range few() {
				wantSum(t, a, b, c)
			}
		}
	}
}

// P1.2: parts far beyond the ends, whose sum is back within them.
func TestSumOfLongRows(t *testing.T) {
	const n = 5000
	up, down := slices.Repeat([]int{greatest}, n), slices.Repeat([]int{least}, n)
	wantSum(t, up...)
	wantSum(t, down...)
	both := slices.Concat(up, down)
	if got, ok := sat.Sum(both...); got != -n || !ok {
		t.Errorf("Sum up and down: %d %v", got, ok)
	}
	slices.Reverse(both)
	if got, ok := sat.Sum(both...); got != -n || !ok {
		t.Errorf("Sum down and up: %d %v", got, ok)
	}
}

// P1.3
func TestMul(t *testing.T) {
	for _, a := range edges() {
		for _, b := range edges() {
			p := new(big.Int).Mul(big.NewInt(int64(a)), big.NewInt(int64(b)))
			want, wantOK := 0, p.IsInt64()
			if wantOK {
				want = int(p.Int64())
			}
			if got, ok := sat.Mul(a, b); got != want || ok != wantOK {
				t.Errorf("Mul(%d, %d): %d %v, want %d %v", a, b, got, ok, want, wantOK)
			}
		}
	}
}

// P1.3
func TestMulWrittenOut(t *testing.T) {
	for _, c := range []struct {
		a, b, want int
		ok         bool
	}{
		{6, 7, 42, true}, {-6, 7, -42, true}, {-6, -7, 42, true}, {0, least, 0, true},
		{least, 1, least, true}, {least, -1, 0, false}, {-1, least, 0, false},
		{least, 2, 0, false}, {least, least, 0, false}, {greatest, greatest, 0, false},
		{greatest, -1, least + 1, true}, {greatest, 2, 0, false},
		{-1 << 31, 1 << 32, least, true}, {1 << 31, 1 << 32, 0, false}, {-1 << 31, -1 << 32, 0, false},
		{1 << 32, 1 << 32, 0, false}, // goes round to 0 in 64 bits
	} {
		if got, ok := sat.Mul(c.a, c.b); got != c.want || ok != c.ok {
			t.Errorf("Mul(%d, %d): %d %v, want %d %v", c.a, c.b, got, ok, c.want, c.ok)
		}
	}
}

func orders(xs []int, seen func([]int)) {
	var from func(k int)
	from = func(k int) {
		if k == len(xs) {
			seen(xs)
			return
		}
		for i := k; i < len(xs); i++ {
			xs[k], xs[i] = xs[i], xs[k]
			from(k + 1)
			xs[k], xs[i] = xs[i], xs[k]
		}
	}
	from(0)
}

// P1.4
func TestSumInEachOrder(t *testing.T) {
	for _, row := range [][]int{
		{greatest, 1, -1, 5, -5},
		{greatest, greatest, least, least, 1},
		{greatest, greatest, greatest, least, least},
		{least, -1, -1, 1, 1},
		{greatest, 1, 1, -1, 0},
		{1, 2, 3, 4, 5},
	} {
		want, wantOK := bigSum(row)
		orders(slices.Clone(row), func(xs []int) {
			if got, ok := sat.Sum(xs...); got != want || ok != wantOK {
				t.Errorf("Sum%v: %d %v, want %d %v", xs, got, ok, want, wantOK)
			}
		})
	}
}

// P1.4
func TestClampingKeepsTheOrder(t *testing.T) {
	row := edges()
	for bits := 1; bits <= 64; bits++ {
		for i, x := range row {
			once := sat.Sat(x, bits)
			if !sat.Fits(once, bits) || sat.Sat(once, bits) != once {
				t.Errorf("Sat(%d, %d): a second time changes %d", x, bits, once)
			}
			if sat.Fits(x, bits) != (once == x) {
				t.Errorf("Sat(%d, %d): %d, but Fits %v", x, bits, once, sat.Fits(x, bits))
			}
			if i > 0 && sat.Sat(row[i-1], bits) > once {
				t.Errorf("Sat of %d and %d in %d bits: order lost", row[i-1], x, bits)
			}
		}
	}
	for _, low := range few() {
		for _, high := range few() {
			if low > high {
				continue
			}
			for i, x := range row {
				once := sat.Clamp(x, low, high)
				if sat.Clamp(once, low, high) != once {
					t.Errorf("Clamp(%d, %d, %d): a second time changes %d", x, low, high, once)
				}
				if i > 0 && sat.Clamp(row[i-1], low, high) > once {
					t.Errorf("Clamp of %d and %d to %d and %d: order lost", row[i-1], x, low, high)
				}
			}
		}
	}
}

// R3
func TestRowsStayAsTheyAre(t *testing.T) {
	row := []int{greatest, 1, -1, least, 100}
	kept := slices.Clone(row)
	sat.Add(8, row...)
	sat.Sum(row...)
	if !slices.Equal(row, kept) {
		t.Errorf("row is now %v", row)
	}
}
