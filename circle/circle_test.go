package circle_test

import (
	"math"
	"math/big"
	"slices"
	"testing"

	"earshot/circle"
)

const (
	least    = math.MinInt
	greatest = math.MaxInt
)

// cosines and sines are those of each of the 64 places, written out.
var cosines = []int{
	16384, 16305, 16069, 15679, 15137, 14449, 13623, 12665, 11585, 10394, 9102, 7723, 6270, 4756, 3196, 1606,
	0, -1606, -3196, -4756, -6270, -7723, -9102, -10394, -11585, -12665, -13623, -14449, -15137, -15679, -16069, -16305,
	-16384, -16305, -16069, -15679, -15137, -14449, -13623, -12665, -11585, -10394, -9102, -7723, -6270, -4756, -3196, -1606,
	0, 1606, 3196, 4756, 6270, 7723, 9102, 10394, 11585, 12665, 13623, 14449, 15137, 15679, 16069, 16305,
}

var sines = []int{
	0, 1606, 3196, 4756, 6270, 7723, 9102, 10394, 11585, 12665, 13623, 14449, 15137, 15679, 16069, 16305,
	16384, 16305, 16069, 15679, 15137, 14449, 13623, 12665, 11585, 10394, 9102, 7723, 6270, 4756, 3196, 1606,
	0, -1606, -3196, -4756, -6270, -7723, -9102, -10394, -11585, -12665, -13623, -14449, -15137, -15679, -16069, -16305,
	-16384, -16305, -16069, -15679, -15137, -14449, -13623, -12665, -11585, -10394, -9102, -7723, -6270, -4756, -3196, -1606,
}

// windows are all there are, by their lengths, written out.
var windows = map[int][]int{
	16: {1310, 1884, 3518, 5963, 8847, 11731, 14176, 15810, 16384, 15810, 14176, 11731, 8847, 5963, 3518, 1884},
	32: {
		1310, 1455, 1884, 2580, 3518, 4660, 5963, 7377, 8847, 10317, 11731, 13034, 14176, 15114, 15810, 16239,
		16384, 16239, 15810, 15114, 14176, 13034, 11731, 10317, 8847, 7377, 5963, 4660, 3518, 2580, 1884, 1455,
	},
	64: {
		1310, 1346, 1455, 1634, 1884, 2200, 2580, 3021, 3518, 4066, 4660, 5294, 5963, 6659, 7377, 8108,
		8847, 9586, 10317, 11035, 11731, 12400, 13034, 13628, 14176, 14673, 15114, 15494, 15810, 16060, 16239, 16348,
		16384, 16348, 16239, 16060, 15810, 15494, 15114, 14673, 14176, 13628, 13034, 12400, 11731, 11035, 10317, 9586,
		8847, 8108, 7377, 6659, 5963, 5294, 4660, 4066, 3518, 3021, 2580, 2200, 1884, 1634, 1455, 1346,
	},
}

// numbers are some turns to both sides, those about each power of 2 and about each one's opposite, the two turns at the ends of 64 bits, and some that are not of a kind.
func numbers() []int {
	var row []int
	for k := -300; k <= 300; k++ {
		row = append(row, k)
	}
	for n := range 63 {
		for k := -2; k <= 2; k++ {
			row = append(row, 1<<n+k, -1<<n+k)
		}
	}
	for k := range 128 {
		row = append(row, least+k, greatest-k)
	}
	x := uint64(1)
	for k := range 640 {
		x = x*6364136223846793005 + 1442695040888963407
		row = append(row, int(x)>>(k%64))
	}
	return row
}

// rest is the one of numbers of any length.
func rest(k int) int {
	return int(new(big.Int).Mod(big.NewInt(int64(k)), big.NewInt(64)).Int64())
}

// weight goes by the words of the chapter, in numbers of any length: x by 2^14 and a half is (2x + 2^14) by 2^15.
func weight(n, t int) int {
	x := big.NewInt(int64(2 * 7537 * cosines[t*64/n]))
	x.Add(x, big.NewInt(1<<14))
	return 8847 - int(x.Div(x, big.NewInt(1<<15)).Int64())
}

func want(t *testing.T, what string, of, got, want int) {
	t.Helper()
	if got != want {
		t.Errorf("%s(%d): %d, want %d", what, of, got, want)
	}
}

// P4.1
func TestRestWrittenOut(t *testing.T) {
	for _, c := range []struct{ k, want int }{
		{0, 0}, {1, 1}, {16, 16}, {32, 32}, {62, 62}, {63, 63}, {64, 0}, {65, 1}, {127, 63}, {128, 0}, {129, 1}, {6400, 0}, {6463, 63},
		{-1, 63}, {-2, 62}, {-16, 48}, {-63, 1}, {-64, 0}, {-65, 63}, {-127, 1}, {-128, 0}, {-129, 63},
		{least, 0}, {least + 1, 1}, {least + 63, 63}, {least + 64, 0}, {greatest, 63}, {greatest - 1, 62}, {greatest - 63, 0}, {greatest - 64, 63},
	} {
		want(t, "Rest", c.k, circle.Rest(c.k), c.want)
	}
}

// P4.1
func TestRest(t *testing.T) {
	for _, k := range numbers() {
		want(t, "Rest", k, circle.Rest(k), rest(k))
	}
}

// P4.1
func TestCosAndSinOfEachPlace(t *testing.T) {
	for k := range 64 {
		want(t, "Rest", k, circle.Rest(k), k)
		want(t, "Cos", k, circle.Cos(k), cosines[k])
		want(t, "Sin", k, circle.Sin(k), sines[k])
	}
}

// P4.1
func TestCosAndSinWrittenOut(t *testing.T) {
	for _, c := range []struct{ k, cos, sin int }{
		{8, 11585, 11585}, {40, -11585, -11585}, {-1, 16305, -1606}, {-8, 11585, -11585}, {-16, 0, -16384}, {-17, -1606, -16305}, {-32, -16384, 0}, {-33, -16305, 1606},
		{-48, 0, 16384}, {-63, 16305, 1606}, {-64, 16384, 0}, {-65, 16305, -1606}, {64, 16384, 0}, {65, 16305, 1606}, {80, 0, 16384}, {81, -1606, 16305},
		{least, 16384, 0}, {least + 1, 16305, 1606}, {least + 15, 1606, 16305}, {least + 16, 0, 16384}, {least + 17, -1606, 16305},
		{greatest, 16305, -1606}, {greatest - 1, 16069, -3196}, {greatest - 15, 0, -16384}, {greatest - 31, -16384, 0},
	} {
		want(t, "Cos", c.k, circle.Cos(c.k), c.cos)
		want(t, "Sin", c.k, circle.Sin(c.k), c.sin)
	}
}

// P4.1
func TestCosAndSinOfTurnsAway(t *testing.T) {
	for _, k := range numbers() {
		want(t, "Cos", k, circle.Cos(k), cosines[rest(k)])
		want(t, "Sin", k, circle.Sin(k), sines[rest(k)])
	}
}

// P4.1: the quarter is what cosines are, in 16384ths, to the nearest.
func TestCosAndSinAreNearTheTrueOnes(t *testing.T) {
	for k := range 64 {
		sin, cos := math.Sincos(2 * math.Pi * float64(k) / 64)
		want(t, "Cos", k, circle.Cos(k), int(math.Round(16384*cos)))
		want(t, "Sin", k, circle.Sin(k), int(math.Round(16384*sin)))
	}
}

// P4.2
func TestWindowWrittenOut(t *testing.T) {
	for n, row := range windows {
		if got := circle.Window(n); !slices.Equal(got, row) {
			t.Errorf("Window(%d): %v, want %v", n, got, row)
		}
	}
}

// P4.2
func TestWindowByTheWordsOfTheChapter(t *testing.T) {
	for _, n := range []int{16, 32, 64} {
		row := circle.Window(n)
		if len(row) != n {
			t.Fatalf("Window(%d) has %d numbers", n, len(row))
		}
		for k, got := range row {
			if got != weight(n, k) {
				t.Errorf("Window(%d), number %d: %d, want %d", n, k, got, weight(n, k))
			}
		}
	}
}

// P4.2
func TestWindowOfAnotherLengthIsNothing(t *testing.T) {
	for _, n := range append(numbers(), 48, 512, 1024, 4096, least, greatest) {
		if n == 16 || n == 32 || n == 64 {
			continue
		}
		if got := circle.Window(n); len(got) != 0 {
			t.Errorf("Window(%d) has %d numbers", n, len(got))
		}
	}
}

// P4.3
func TestWindowGoesUpAndDownAgain(t *testing.T) {
	for _, n := range []int{16, 32, 64} {
		row := circle.Window(n)
		if len(row) != n {
			t.Fatalf("Window(%d) has %d numbers", n, len(row))
		}
		if row[0] != 1310 || row[n/2] != 16384 {
			t.Errorf("Window(%d) goes from %d to %d", n, row[0], row[n/2])
		}
		for k := 1; k <= n/2; k++ {
			if row[k-1] >= row[k] {
				t.Errorf("Window(%d) does not go up from number %d to %d: %d, %d", n, k-1, k, row[k-1], row[k])
			}
			if row[n-k] != row[k] {
				t.Errorf("Window(%d), numbers %d and %d: %d and %d", n, k, n-k, row[k], row[n-k])
			}
		}
	}
}

// R3
func TestWindowsAreTheCallersOwn(t *testing.T) {
	for n, row := range windows {
		clear(circle.Window(n))
		if got := circle.Window(n); !slices.Equal(got, row) {
			t.Errorf("Window(%d), of which an earlier one was cleared: %v", n, got)
		}
	}
	for k := range 64 {
		want(t, "Cos", k, circle.Cos(k), cosines[k])
	}
}
