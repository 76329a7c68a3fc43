package logs_test

import (
	"math"
	"math/big"
	"slices"
	"testing"

	"earshot/logs"
)

const (
	least    = math.MinInt
	greatest = math.MaxInt
	all      = math.MaxUint64
)

// numbers are the small ones, those about each power of 2 and each half of three of them, the ends of 64 bits, and some of each length that are not of a kind.
func numbers() []uint64 {
	row := []uint64{1000003, 1e18, all, all - 1, all - 2}
	for x := range uint64(300) {
		row = append(row, x)
	}
	for k := range 64 {
		row = append(row, 1<<k-1, 1<<k, 1<<k+1)
	}
	for k := range 63 {
		row = append(row, 3<<k-1, 3<<k, 3<<k+1)
	}
	x := uint64(1)
	for k := range 640 {
		x = x*6364136223846793005 + 1442695040888963407
		row = append(row, x>>(k%64))
	}
	slices.Sort(row)
	return slices.Compact(row)
}

func number(x uint64) *big.Int {
	return new(big.Int).SetUint64(x)
}

// logarithm goes by the words of the chapter, digit by digit, in numbers of any length.
func logarithm(x uint64) int {
	if x == 0 {
		return 0
	}
	b := len(number(x).Text(2)) - 1
	m := number(x)
	for m.BitLen() < 32 {
		m.Lsh(m, 1)
	}
	for m.BitLen() > 32 {
		m.Rsh(m, 1)
	}
	row := ""
	for len(row) < 8 {
		m.Mul(m, m)
		m.Rsh(m, 31)
		if m.Bit(32) == 1 {
			row += "1"
			m.Rsh(m, 1)
		} else {
			row += "0"
		}
	}
	digits, _ := new(big.Int).SetString(row, 2)
	return 256*b + int(digits.Int64())
}

// firsts are, for each of the digits from 1 to 255, the first number of 32 bits whose logarithm has them.
func firsts() []uint64 {
	var row []uint64
	for digits := 1; digits < 256; digits++ {
		low, high := uint64(1<<31), uint64(1<<32-1)
		for low < high {
			if middle := (low + high) / 2; logarithm(middle) >= 256*31+digits {
				high = middle
			} else {
				low = middle + 1
			}
		}
		row = append(row, low)
	}
	return row
}

func wantLog(t *testing.T, x uint64) {
	t.Helper()
	if got, want := logs.Log(x), logarithm(x); got != want {
		t.Errorf("Log(%d): %d, want %d", x, got, want)
	}
}

// P3.1
func TestBitsWrittenOut(t *testing.T) {
	for _, c := range []struct {
		x    uint64
		want int
	}{
		{0, 0}, {1, 1}, {2, 2}, {3, 2}, {4, 3}, {5, 3}, {7, 3}, {8, 4}, {9, 4}, {255, 8}, {256, 9}, {257, 9},
		{1<<31 - 1, 31}, {1 << 31, 32}, {1<<32 - 1, 32}, {1 << 32, 33}, {1<<32 + 1, 33},
		{1<<62 - 1, 62}, {1 << 62, 63}, {1<<63 - 1, 63}, {1 << 63, 64}, {1<<63 + 1, 64}, {all - 1, 64}, {all, 64},
	} {
		if got := logs.Bits(c.x); got != c.want {
			t.Errorf("Bits(%d): %d, want %d", c.x, got, c.want)
		}
	}
}

// P3.1
func TestBits(t *testing.T) {
	for _, x := range numbers() {
		want := 0
		if x > 0 {
			want = len(number(x).Text(2))
		}
		if got := logs.Bits(x); got != want {
			t.Errorf("Bits(%d): %d, want %d", x, got, want)
		}
	}
}

// P3.1
func TestNormWrittenOut(t *testing.T) {
	for _, c := range []struct {
		xs   []int
		want int
	}{
		{nil, 0}, {[]int{}, 0}, {[]int{0}, 0}, {[]int{0, 0, 0}, 0},
		{[]int{1}, 1}, {[]int{-1}, 1}, {[]int{2}, 2}, {[]int{-2}, 2}, {[]int{-3}, 2}, {[]int{-4}, 3}, {[]int{-5}, 3},
		{[]int{3, -8}, 4}, {[]int{-8, 3}, 4}, {[]int{8, -3}, 4}, {[]int{7, -8, 3}, 4}, {[]int{7, -7, 3}, 3}, {[]int{-9, -1, -2}, 4},
		{[]int{-128}, 8}, {[]int{-129}, 8}, {[]int{-127}, 7}, {[]int{0, -256, 255}, 9},
		{[]int{-1 << 31}, 32}, {[]int{-1<<31 + 1}, 31}, {[]int{-1 << 62}, 63},
		{[]int{greatest}, 63}, {[]int{least + 1}, 63}, {[]int{least}, 64},
		{[]int{1, least, 1}, 64}, {[]int{least, greatest}, 64}, {[]int{greatest, least}, 64}, {[]int{greatest, 0, least + 1}, 63},
	} {
		if got := logs.Norm(c.xs...); got != c.want {
			t.Errorf("Norm%v: %d, want %d", c.xs, got, c.want)
		}
	}
}

// P3.1
func TestNormIsTheGreatestBits(t *testing.T) {
	row := []int{}
	for _, x := range numbers() {
		row = append(row, int(x), -int(x))
	}
	bits := func(x int) int {
		return new(big.Int).Abs(big.NewInt(int64(x))).BitLen()
	}
	most := 0
	for i, x := range row {
		if got, want := logs.Norm(x), bits(x); got != want {
			t.Errorf("Norm(%d): %d, want %d", x, got, want)
		}
		y := row[(i*7919+11)%len(row)]
		if got, want := logs.Norm(x, y, 0), max(bits(x), bits(y)); got != want {
			t.Errorf("Norm(%d, %d, 0): %d, want %d", x, y, got, want)
		}
		most = max(most, bits(x))
		if got := logs.Norm(row[:i+1]...); got != most {
			t.Errorf("Norm of the first %d: %d, want %d", i+1, got, most)
		}
	}
}

// P3.2
func TestLogWrittenOut(t *testing.T) {
	for _, c := range []struct {
		x    uint64
		want int
	}{
		{0, 0}, {1, 0}, {2, 256}, {3, 405}, {4, 512}, {5, 594}, {6, 661}, {7, 718}, {8, 768}, {9, 811}, {10, 850}, {12, 917},
		{15, 1000}, {16, 1024}, {17, 1046}, {100, 1700}, {255, 2046}, {256, 2048}, {257, 2049}, {1000, 2551},
		{65535, 4095}, {65536, 4096}, {1000003, 5102}, {1<<31 - 1, 7935}, {1 << 31, 7936}, {1<<31 + 1, 7936},
		{1<<32 - 1, 8191}, {1 << 32, 8192}, {1<<32 + 1, 8192}, {1<<33 - 1, 8447}, {1 << 33, 8448}, {1<<33 + 1, 8448},
		{1e18, 15307}, {1<<63 - 1, 16127}, {1 << 63, 16128}, {1<<63 + 1, 16128}, {all, 16383},
		// As what is squared loses its lowest bits, 2^(1/256) comes one late here.
		{2153306066, 7936}, {2153306067, 7936}, {2153306068, 7937},
		// What falls off below is gone, all bits of it 1.
		{2153306068<<1 - 1, 8192}, {2153306068 << 1, 8193},
		{2153306068<<32 - 1, 16128}, {2153306068 << 32, 16129}, {2153306068<<32 + 1<<32 - 1, 16129},
		{4283353947<<32 - 1, 16382}, {4283353947 << 32, 16383},
	} {
		if got := logs.Log(c.x); got != c.want {
			t.Errorf("Log(%d): %d, want %d", c.x, got, c.want)
		}
	}
}

// P3.2
func TestLog(t *testing.T) {
	for _, x := range numbers() {
		wantLog(t, x)
	}
	for x := range uint64(1 << 14) {
		wantLog(t, x)
	}
}

// P3.2
func TestLogWhereItsDigitsChange(t *testing.T) {
	for _, x := range firsts() {
		for k := 0; k <= 32; k++ {
			first := x << k
			wantLog(t, first-1)
			wantLog(t, first)
			wantLog(t, first+1)
			wantLog(t, first+1<<k-1)
		}
	}
}

// P3.2
func TestLogIsNearTheTrueOne(t *testing.T) {
	for _, x := range numbers() {
		if x == 0 {
			continue
		}
		true256 := 256 * math.Log2(float64(x))
		if got := float64(logs.Log(x)); got > true256+1e-6 || got < true256-1-1e-5 {
			t.Errorf("Log(%d): %v, where the true one is %v", x, got, true256)
		}
	}
}

// P3.3
func TestRootWrittenOut(t *testing.T) {
	for _, c := range []struct {
		x    uint64
		want int
	}{
		{0, 0}, {1, 1}, {2, 1}, {3, 1}, {4, 2}, {5, 2}, {8, 2}, {9, 3}, {10, 3}, {15, 3}, {16, 4}, {17, 4}, {99, 9}, {100, 10}, {101, 10},
		{1<<32 - 1, 65535}, {1 << 32, 65536}, {1<<32 + 1, 65536}, {1<<62 - 1, 1<<31 - 1}, {1 << 62, 1 << 31}, {1<<62 + 1, 1 << 31},
		{1<<63 - 1, 3037000499}, {1 << 63, 3037000499}, {3037000500*3037000500 - 1, 3037000499}, {3037000500 * 3037000500, 3037000500},
		{(1<<32-1)*(1<<32-1) - 1, 1<<32 - 2}, {(1<<32 - 1) * (1<<32 - 1), 1<<32 - 1}, {(1<<32-1)*(1<<32-1) + 1, 1<<32 - 1},
		{all - 1, 1<<32 - 1}, {all, 1<<32 - 1},
	} {
		if got := logs.Root(c.x); got != c.want {
			t.Errorf("Root(%d): %d, want %d", c.x, got, c.want)
		}
	}
}

// P3.3
func TestRoot(t *testing.T) {
	for _, x := range numbers() {
		if got, want := logs.Root(x), new(big.Int).Sqrt(number(x)); want.Cmp(big.NewInt(int64(got))) != 0 {
			t.Errorf("Root(%d): %d, want %d", x, got, want)
		}
	}
}

// P3.3
func TestRootOfSquaresAndTheirNeighbours(t *testing.T) {
	for _, x := range numbers() {
		if x == 0 || x > math.MaxUint32 {
			continue
		}
		for _, c := range []struct{ of, want uint64 }{{x*x - 1, x - 1}, {x * x, x}, {x*x + 1, x}, {x*x + 2*x, x}} {
			if got := logs.Root(c.of); uint64(got) != c.want {
				t.Errorf("Root(%d): %d, want %d", c.of, got, c.want)
			}
		}
	}
}

// P3.4
func TestLogKeepsTheOrder(t *testing.T) {
	row := numbers()
	for _, x := range firsts() {
		row = append(row, x-1, x, x+1, x<<32-1, x<<32, x<<32+1)
	}
	slices.Sort(row)
	for i := 1; i < len(row); i++ {
		if logs.Log(row[i-1]) > logs.Log(row[i]) {
			t.Errorf("Log of %d and %d: order lost", row[i-1], row[i])
		}
	}
	for x := range uint64(1 << 16) {
		if logs.Log(x) > logs.Log(x+1) {
			t.Errorf("Log of %d and %d: order lost", x, x+1)
		}
	}
}

// P3.4: of numbers that have a logarithm.
func TestLogOfTwiceANumber(t *testing.T) {
	for _, x := range append(numbers(), firsts()...) {
		if x == 0 || x >= 1<<63 {
			continue
		}
		if once, twice := logs.Log(x), logs.Log(2*x); twice != once+256 {
			t.Errorf("Log of %d and of its double: %d and %d", x, once, twice)
		}
	}
}

// P3.4
func TestLogOfASquare(t *testing.T) {
	more := 0
	for _, x := range append(numbers(), firsts()...) {
		if x > math.MaxUint32 {
			continue
		}
		once, square := logs.Log(x), logs.Log(x*x)
		if square != 2*once && square != 2*once+1 {
			t.Errorf("Log of %d and of its square: %d and %d", x, once, square)
		}
		more += square - 2*once
	}
	if more == 0 {
		t.Error("no square's logarithm is 1 more")
	}
}

// R3
func TestRowsStayAsTheyAre(t *testing.T) {
	row := []int{greatest, 1, -1, least, 100}
	kept := slices.Clone(row)
	logs.Norm(row...)
	if !slices.Equal(row, kept) {
		t.Errorf("row is now %v", row)
	}
}
