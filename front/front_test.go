package front_test

import (
	"math"
	"slices"
	"testing"

	"earshot/api"
	"earshot/circle"
	"earshot/dct"
	"earshot/fft"
	"earshot/front"
	"earshot/mel"
)

const (
	least    = math.MinInt
	greatest = math.MaxInt
)

// sizes and counts are all that a frame's size, and bands, may be.
var (
	sizes  = []int{16, 32, 64}
	counts = []int{4, 8, 16}
)

// of is a front of five numbers, in the order of its fields.
func of(n [5]int) api.Front {
	return api.Front{Size: n[0], Hop: n[1], Bands: n[2], Coefs: n[3], Pre: n[4]}
}

// fronts are right ones: of each size and each count of bands, hops at both ends and between, coefficients and what is taken off likewise.
func fronts() []api.Front {
	var all []api.Front
	for _, size := range sizes {
		for _, bands := range counts {
			all = append(all,
				api.Front{Size: size, Hop: 1, Bands: bands, Coefs: bands, Pre: 0},
				api.Front{Size: size, Hop: size / 2, Bands: bands, Coefs: bands - 1, Pre: 31130},
				api.Front{Size: size, Hop: size/2 + 3, Bands: bands, Coefs: 2, Pre: 16384},
				api.Front{Size: size, Hop: size, Bands: bands, Coefs: 1, Pre: 32767},
			)
		}
	}
	return all
}

// wrongs are fronts that are not right: of one that is, each number alone is changed.
func wrongs() []api.Front {
	all := []api.Front{{}}
	f := api.Front{Size: 32, Hop: 8, Bands: 8, Coefs: 4, Pre: 5}
	for _, x := range []int{least, -32, -1, 0, 1, 8, 15, 17, 31, 33, 63, 65, 128, 1<<32 + 32, greatest} {
		g := f
		g.Size = x
		all = append(all, g)
	}
	for _, x := range []int{least, -8, -1, 0, 33, 64, 1<<32 + 8, greatest} {
		g := f
		g.Hop = x
		all = append(all, g)
	}
	for _, x := range []int{least, -8, -1, 0, 1, 5, 7, 9, 15, 17, 32, 1<<32 + 8, greatest} {
		g := f
		g.Bands = x
		all = append(all, g)
	}
	for _, x := range []int{least, -4, -1, 0, 9, 16, 1<<32 + 4, greatest} {
		g := f
		g.Coefs = x
		all = append(all, g)
	}
	for _, x := range []int{least, -32767, -2, -1, 32768, 65536, 1<<32 + 5, greatest} {
		g := f
		g.Pre = x
		all = append(all, g)
	}
	return all
}

// chance tells numbers that look as if by chance, from low to high, the same ones of each seed.
func chance(seed, low, high int) func(int) int {
	x := uint64(seed)*2 + 1
	return func(int) int {
		x = x*6364136223846793005 + 1442695040888963407
		return low + int((x^x>>29)>>1)%(high-low+1)
	}
}

// made is a row of n numbers, one by one.
func made(n int, number func(i int) int) []int {
	row := make([]int, n)
	for i := range row {
		row[i] = number(i)
	}
	return row
}

// alone is a row of n numbers of which one alone is not 0.
func alone(n, at, x int) []int {
	row := make([]int, n)
	row[at] = x
	return row
}

// Rules of which rows are made.
func zero(int) int      { return 0 }
func slope(t int) int   { return (t*t*13+7*t)%2001 - 1000 }
func loud(t int) int    { return (t*t*40009+t*30011)%131073 - 65536 }
func most(int) int      { return 65536 }
func fewest(int) int    { return -65536 }
func turning(t int) int { return 65536 - 131072*(t%2) }

// halved is a number by 2^n, rounded, of two as near to the greater one: a shift goes down, of numbers below 0, too.
func halved(x, n int) int { return (2*x + 1<<n) >> (n + 1) }

// spread is the numbers of a frame, by the words of the chapter, ahead of their bins.
func spread(ys []int) []int {
	window := circle.Window(len(ys))
	return made(len(ys), func(t int) int { return halved(ys[t]*window[t], 14) })
}

// told is a frame's coefficients, by the words of the chapter.
func told(f api.Front, ys []int) []int {
	re, im, shift := fft.Bins(spread(ys)...)
	bands := mel.Bands(fft.Power(re, im), mel.Edges(f.Size/2+1, f.Bands)...)
	logs := dct.Logs(bands...)
	return dct.Dct(f.Coefs, made(len(logs), func(m int) int { return logs[m] + 512*shift })...)
}

func wantRow(t *testing.T, what string, got, want []int) {
	t.Helper()
	if !slices.Equal(got, want) {
		t.Errorf("%s: %v, want %v", what, got, want)
	}
}

func wantFrame(t *testing.T, f api.Front, ys []int, want ...int) {
	t.Helper()
	if got := front.Frame(f, ys...); !slices.Equal(got, want) {
		t.Errorf("Frame(%v, %v): %v, want %v", f, ys, got, want)
	}
}

// P13.1
func TestRightWrittenOut(t *testing.T) {
	for _, n := range [][5]int{{16, 1, 4, 1, 0}, {16, 16, 4, 4, 32767}, {32, 32, 8, 8, 1}, {64, 64, 16, 16, 32766}, {64, 1, 4, 2, 16384}, {16, 8, 16, 16, 0}, {64, 17, 8, 5, 0}} {
		if !front.Right(of(n)) {
			t.Errorf("Right(%v): false", n)
		}
	}
	for _, n := range [][5]int{
		{}, {0, 0, 4, 1, 0}, {0, 1, 4, 1, 0}, {15, 1, 4, 1, 0}, {17, 1, 4, 1, 0}, {24, 1, 4, 1, 0}, {8, 1, 4, 1, 0}, {128, 1, 4, 1, 0}, {-16, 1, 4, 1, 0},
		{16, 0, 4, 1, 0}, {16, -1, 4, 1, 0}, {16, 17, 4, 1, 0}, {32, 33, 4, 1, 0}, {64, 65, 4, 1, 0},
		{16, 1, 0, 0, 0}, {16, 1, 0, 1, 0}, {16, 1, 3, 1, 0}, {16, 1, 5, 1, 0}, {16, 1, 12, 1, 0}, {16, 1, 32, 1, 0}, {16, 1, 2, 1, 0}, {16, 1, -4, 1, 0},
		{16, 1, 4, 0, 0}, {16, 1, 4, -1, 0}, {16, 1, 4, 5, 0}, {16, 1, 8, 9, 0}, {16, 1, 16, 17, 0},
		{16, 1, 4, 1, -1}, {16, 1, 4, 1, 32768}, {16, 1, 4, 1, least}, {16, 1, 4, 1, greatest},
	} {
		if front.Right(of(n)) {
			t.Errorf("Right(%v): true", n)
		}
	}
}

// P13.1: each number of a front at both its ends, one beyond, and far off, with each of the others so.
func TestRight(t *testing.T) {
	hard := []int{least, -1, 0, 1, 3, 4, 5, 7, 8, 9, 15, 16, 17, 31, 32, 33, 63, 64, 65, 1<<32 + 16, greatest}
	pres := []int{least, -1, 0, 1, 32767, 32768, greatest}
	for _, size := range hard {
		for _, hop := range hard {
			for _, bands := range hard {
				for _, coefs := range hard {
					for _, pre := range pres {
						f := api.Front{Size: size, Hop: hop, Bands: bands, Coefs: coefs, Pre: pre}
						want := slices.Contains(sizes, size) && hop >= 1 && hop <= size && slices.Contains(counts, bands) && coefs >= 1 && coefs <= bands && pre >= 0 && pre <= 32767
						if got := front.Right(f); got != want {
							t.Fatalf("Right(%v): %t, want %t", f, got, want)
						}
					}
				}
			}
		}
	}
}

// P13.1: frames whose bins are moved down by so many bits, from 0 on; written out, so that nothing here hangs on the layers below.
func TestFrameWrittenOut(t *testing.T) {
	for _, c := range []struct {
		f     api.Front
		ys    []int
		shift int
		want  []int
	}{
		{api.Front{Size: 16, Hop: 8, Bands: 4, Coefs: 4, Pre: 0}, made(16, zero), 0, []int{0, 0, 0, 0}},
		{api.Front{Size: 16, Hop: 8, Bands: 4, Coefs: 4, Pre: 0}, alone(16, 8, 1), 0, []int{29268, 0, 0, 0}},
		{api.Front{Size: 16, Hop: 8, Bands: 4, Coefs: 4, Pre: 0}, alone(16, 8, -1), 0, []int{29268, 0, 0, 0}},
		{api.Front{Size: 16, Hop: 8, Bands: 4, Coefs: 4, Pre: 0}, alone(16, 8, 2), 1, []int{31316, 0, 0, 0}},
		{api.Front{Size: 16, Hop: 8, Bands: 4, Coefs: 4, Pre: 0}, alone(16, 8, 3), 1, []int{32516, 0, 0, 0}},
		{api.Front{Size: 16, Hop: 8, Bands: 4, Coefs: 4, Pre: 0}, alone(16, 8, -8), 3, []int{35412, 0, 0, 0}},
		{api.Front{Size: 16, Hop: 8, Bands: 4, Coefs: 4, Pre: 0}, alone(16, 8, 16384), 14, []int{57940, 0, 0, 0}},
		{api.Front{Size: 16, Hop: 8, Bands: 4, Coefs: 4, Pre: 0}, alone(16, 8, 65536), 16, []int{62036, 0, 0, 0}},
		{api.Front{Size: 16, Hop: 8, Bands: 4, Coefs: 4, Pre: 0}, alone(16, 8, -65536), 16, []int{62036, 0, 0, 0}},
		{api.Front{Size: 16, Hop: 8, Bands: 4, Coefs: 4, Pre: 0}, alone(16, 0, 1), 0, []int{0, 0, 0, 0}},
		{api.Front{Size: 16, Hop: 8, Bands: 4, Coefs: 4, Pre: 0}, alone(16, 0, 65536), 12, []int{54572, 0, 0, 0}},
		{api.Front{Size: 16, Hop: 1, Bands: 8, Coefs: 8, Pre: 9}, alone(16, 1, -65536), 12, []int{102478, -4232, 2915, 7472, 5387, -1486, -7038, -6334}},
		{api.Front{Size: 16, Hop: 16, Bands: 4, Coefs: 2, Pre: 32767}, alone(16, 15, 65535), 12, []int{55648, 0}},
		{api.Front{Size: 16, Hop: 1, Bands: 4, Coefs: 4, Pre: 0}, made(16, slope), 11, []int{49040, 971, 416, 279}},
		{api.Front{Size: 16, Hop: 1, Bands: 4, Coefs: 4, Pre: 0}, made(16, loud), 16, []int{62175, 10, 356, -288}},
		{api.Front{Size: 16, Hop: 1, Bands: 4, Coefs: 4, Pre: 0}, made(16, most), 19, []int{45250, 5856, 4482, 2425}},
		{api.Front{Size: 16, Hop: 1, Bands: 4, Coefs: 4, Pre: 0}, made(16, turning), 19, []int{45250, -5856, 4482, -2425}},
		{api.Front{Size: 16, Hop: 16, Bands: 8, Coefs: 8, Pre: 1}, made(16, slope), 11, []int{90508, -1526, 3220, 7031, 4805, -1122, -6044, -5472}},
		{api.Front{Size: 16, Hop: 8, Bands: 16, Coefs: 16, Pre: 32767}, made(16, slope), 11, []int{135564, -809, -4013, 744, -1060, 3470, -52, 2169, -4732, -3842, -12184, -8368, -15116, -3061, -9569, 26806}},
		{api.Front{Size: 32, Hop: 32, Bands: 4, Coefs: 4, Pre: 0}, made(32, slope), 11, []int{52842, -385, -479, 5}},
		{api.Front{Size: 32, Hop: 9, Bands: 8, Coefs: 5, Pre: 100}, made(32, loud), 17, []int{128164, -105, 248, 1218, -820}},
		{api.Front{Size: 32, Hop: 9, Bands: 8, Coefs: 5, Pre: 100}, made(32, fewest), 20, []int{88258, 6216, 5856, 5270, 4482}},
		{api.Front{Size: 32, Hop: 1, Bands: 16, Coefs: 1, Pre: 0}, made(32, loud), 17, []int{237008}},
		{api.Front{Size: 64, Hop: 64, Bands: 4, Coefs: 3, Pre: 0}, made(64, turning), 21, []int{48743, -5299, 4055}},
		{api.Front{Size: 64, Hop: 1, Bands: 8, Coefs: 8, Pre: 7}, made(64, loud), 18, []int{132392, 112, 801, 259, 156, -99, 72, 83}},
		{api.Front{Size: 64, Hop: 33, Bands: 16, Coefs: 16, Pre: 32767}, made(64, slope), 12, []int{208975, -2099, 3008, 371, -1099, -66, 67, 306, 360, -515, 771, -863, -811, 279, 235, -576}},
		{api.Front{Size: 64, Hop: 33, Bands: 16, Coefs: 16, Pre: 32767}, made(64, most), 21, []int{178626, 6562, 6467, 6310, 6092, 5815, 5483, 5097, 4663, 4183, 3663, 3108, 2523, 1914, 1286, 646}},
	} {
		wantFrame(t, c.f, c.ys, c.want...)
		if _, _, shift := fft.Bins(spread(c.ys)...); shift != c.shift {
			t.Errorf("bins of %v are moved down by %d, want %d", c.ys, shift, c.shift)
		}
	}
}

// P13.1: a number of a frame times its window is rounded, of two as near to the greater one: 256 becomes 222, and -256 becomes -221, where 14176 is the window's.
func TestFrameIsRounded(t *testing.T) {
	f := api.Front{Size: 16, Hop: 8, Bands: 4, Coefs: 1, Pre: 0}
	wantRow(t, "a number that lies halfway", spread(alone(16, 6, 256)), alone(16, 6, 222))
	wantRow(t, "a number below 0 that lies halfway", spread(alone(16, 6, -256)), alone(16, 6, -221))
	wantFrame(t, f, alone(16, 6, 256), 45232)
	wantFrame(t, f, alone(16, 6, -256), 45220)
}

// P13.1: of each right front rows of any numbers, by the words of the chapter.
func TestFrameByTheWordsOfTheChapter(t *testing.T) {
	for i, f := range fronts() {
		for bits := range 17 {
			ys := made(f.Size, chance(20*i+bits, -1<<bits, 1<<bits))
			wantFrame(t, f, ys, told(f, ys)...)
		}
		for at := range f.Size {
			for _, x := range []int{1, -255, 65536} {
				ys := alone(f.Size, at, x)
				wantFrame(t, f, ys, told(f, ys)...)
			}
		}
	}
}

// P13.1: a frame has Coefs numbers, and neither Hop nor Pre changes it; fewer are the first of more.
func TestFrameHangsOnWhatItIsMadeOf(t *testing.T) {
	for _, size := range sizes {
		for _, bands := range counts {
			ys := made(size, loud)
			all := front.Frame(api.Front{Size: size, Hop: 1, Bands: bands, Coefs: bands, Pre: 0}, ys...)
			if len(all) != bands {
				t.Fatalf("%d coefficients of %d bands", len(all), bands)
			}
			for coefs := 1; coefs <= bands; coefs++ {
				wantFrame(t, api.Front{Size: size, Hop: size - coefs + 1, Bands: bands, Coefs: coefs, Pre: 2000 * coefs}, ys, all[:coefs]...)
			}
		}
	}
}

// P13.1, R1: of a front that is not right there is nothing, of however many numbers.
func TestFrameOfAWrongFront(t *testing.T) {
	for _, f := range wrongs() {
		if front.Right(f) {
			t.Errorf("Right(%v): true", f)
		}
		for _, n := range []int{0, 1, 15, 16, 17, 31, 32, 33, 63, 64, 65} {
			wantFrame(t, f, made(n, slope))
		}
	}
}

// P13.1, R1: of too few, or too many, numbers there is nothing.
func TestFrameOfAWrongLength(t *testing.T) {
	for _, f := range fronts() {
		for _, n := range []int{0, 1, 2, f.Size / 2, f.Size - 1, f.Size + 1, f.Size + f.Hop, 2 * f.Size, 1 << 16} {
			if n != f.Size {
				wantFrame(t, f, made(n, slope))
			}
		}
	}
}

// P13.1, R1: each number, at each place, is from -65536 to 65536; of one beyond there is nothing.
func TestFrameOfNumbersAtTheEnds(t *testing.T) {
	for _, f := range fronts() {
		for at := range f.Size {
			ys := made(f.Size, slope)
			for _, x := range []int{-65536, 65536} {
				ys[at] = x
				wantFrame(t, f, ys, told(f, ys)...)
			}
			for _, x := range []int{-65537, 65537, -1 << 32, 1 << 32, 1<<32 + 5, 1 << 62, least, least + 1, greatest} {
				ys[at] = x
				wantFrame(t, f, ys)
			}
		}
	}
}

// R3: numbers that are handed in stay as they were, and what is told is the caller's own.
func TestFrameKeepsNothing(t *testing.T) {
	f := api.Front{Size: 16, Hop: 8, Bands: 4, Coefs: 4, Pre: 0}
	ys := made(20, slope)
	was := slices.Clone(ys)
	row := front.Frame(f, ys[:16]...)
	wantRow(t, "numbers that were handed in", ys, was)
	clear(row)
	_ = append(row, 78, 79)
	wantRow(t, "numbers that were handed in, once what was told is changed", ys, was)
	wantFrame(t, f, ys[:16], 49040, 971, 416, 279)
	row = front.Frame(f, ys[:16]...)
	clear(ys)
	wantRow(t, "what was told, once the numbers are others", row, []int{49040, 971, 416, 279})
}
