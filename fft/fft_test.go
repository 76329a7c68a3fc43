package fft_test

import (
	"math"
	"math/big"
	"slices"
	"testing"

	"earshot/fft"
	"earshot/spin"
)

const (
	least    = math.MinInt
	greatest = math.MaxInt
)

// mayBe are the lengths of which there are spins.
var mayBe = []int{2, 4, 8, 16, 32, 64}

// cosines are those of half a circle, in 64ths, written out; the sines are these, a quarter ahead.
var cosines = []int{
	16384, 16305, 16069, 15679, 15137, 14449, 13623, 12665, 11585, 10394, 9102, 7723, 6270, 4756, 3196, 1606,
	0, -1606, -3196, -4756, -6270, -7723, -9102, -10394, -11585, -12665, -13623, -14449, -15137, -15679, -16069, -16305,
}

var sines = []int{
	0, 1606, 3196, 4756, 6270, 7723, 9102, 10394, 11585, 12665, 13623, 14449, 15137, 15679, 16069, 16305,
	16384, 16305, 16069, 15679, 15137, 14449, 13623, 12665, 11585, 10394, 9102, 7723, 6270, 4756, 3196, 1606,
}

// chance tells numbers that look as if by chance, of so many bits at most and a sign, the same ones of each seed.
func chance(seed, bits int) func() int {
	x := uint64(seed)*2 + 1
	return func() int {
		x = x*6364136223846793005 + 1442695040888963407
		return int(x^x>>29) >> (63 - bits)
	}
}

// made is a row of n numbers, one by one.
func made(n int, number func(t int) int) []int {
	row := make([]int, n)
	for t := range row {
		row[t] = number(t)
	}
	return row
}

// samples are rows of n: of one sample that is 1, of samples none of which is as another one, of both ends, and some that look as if by chance, small and great.
func samples(n int) [][]int {
	var rows [][]int
	for at := range n {
		rows = append(rows, made(n, func(t int) int {
			if t == at {
				return 1
			}
			return 0
		}))
	}
	for _, number := range []func(t int) int{
		func(t int) int { return t + 1 },
		func(t int) int { return -3*t - 7 },
		func(int) int { return 0 },
		func(int) int { return least },
		func(int) int { return greatest },
		func(t int) int { return least * (t % 2) },
		func(t int) int { return 1 << 49 * (1 - min(t, 1)) },
		func(t int) int { return []int{least, greatest, least + 1, -1, 1}[t%5] },
	} {
		rows = append(rows, made(n, number))
	}
	for _, bits := range []int{1, 4, 15, 16, 30, 45, 50, 57, 62, 63} {
		next := chance(100*n+bits, bits)
		rows = append(rows, made(n, func(int) int { return next() }))
	}
	return rows
}

// whiches are k of spins: all of them, those about each round to both sides, far ones, and the ends of 64 bits.
func whiches(n int) []int {
	row := []int{1 << 62, -1 << 62, 1<<32 + 1, -1<<32 - 1, 1000003, -1000003}
	for k := -3; k <= 3; k++ {
		row = append(row, k*n-1, k*n, k*n+1)
	}
	for k := range n {
		row = append(row, k, -k, least+k, greatest-k)
	}
	slices.Sort(row)
	return slices.Compact(row)
}

// goneRound is a number of any length, at 64 bits.
func goneRound(x *big.Int) int {
	all := new(big.Int).Lsh(big.NewInt(1), 64)
	x = new(big.Int).Mod(x, all)
	if x.Bit(63) == 1 {
		x.Sub(x, all)
	}
	return int(x.Int64())
}

// number is a product, in numbers of any length.
func number(a, b int) *big.Int {
	return new(big.Int).Mul(big.NewInt(int64(a)), big.NewInt(int64(b)))
}

// spun goes by the words of the chapter, in numbers of any length: each sample stands at place 0, goes k times t places on, and has its sign turned in each second round of n by 2 places.
func spun(k int, xs []int) []int {
	n, h := len(xs), len(xs)/2
	left := new(big.Int).Mod(big.NewInt(int64(k)), big.NewInt(int64(n))).Int64()
	all := make([]*big.Int, h)
	for j := range all {
		all[j] = new(big.Int)
	}
	for t, x := range xs {
		if place := int(left) * t % n; place < h {
			all[place].Add(all[place], big.NewInt(int64(x)))
		} else {
			all[place-h].Sub(all[place-h], big.NewInt(int64(x)))
		}
	}
	return made(h, func(j int) int { return goneRound(all[j]) })
}

// weighed is the sum of a spin's numbers, each times sign and that of its place of half a circle, in numbers of any length.
func weighed(v []int, sign int, places []int) int {
	x := new(big.Int)
	for j, y := range v {
		x.Add(x, number(y, sign*places[32*j/len(v)]))
	}
	return goneRound(x)
}

// halved is x by 2^shift, of two numbers as near the greater one, in numbers of any length.
func halved(x, shift int) int {
	d := new(big.Int).Lsh(big.NewInt(1), uint(shift))
	y := number(2, x)
	y.Add(y, d)
	y.Div(y, d.Lsh(d, 1))
	return int(y.Int64())
}

// binned goes by the words of the chapter.
func binned(xs []int) (re, im []int, shift int) {
	for k := 0; k <= len(xs)/2; k++ {
		v := spun(k, xs)
		re, im = append(re, weighed(v, 1, cosines)), append(im, weighed(v, -1, sines))
	}
	for _, x := range slices.Concat(re, im) {
		shift = max(shift, new(big.Int).Abs(big.NewInt(int64(x))).BitLen()-15)
	}
	for b := range re {
		re[b], im[b] = halved(re[b], shift), halved(im[b], shift)
	}
	return re, im, shift
}

func wantRow(t *testing.T, what string, got, want []int) {
	t.Helper()
	if !slices.Equal(got, want) {
		t.Errorf("%s: %v, want %v", what, got, want)
	}
}

func wantRows(t *testing.T, what string, got, want [][]int) {
	t.Helper()
	if !slices.EqualFunc(got, want, slices.Equal) {
		t.Errorf("%s: %v, want %v", what, got, want)
	}
}

// bins is what Bins tells, or is to tell.
type bins struct {
	re, im []int
	shift  int
}

func wantBins(t *testing.T, xs []int, want bins) {
	t.Helper()
	re, im, shift := fft.Bins(xs...)
	if !slices.Equal(re, want.re) || !slices.Equal(im, want.im) || shift != want.shift {
		t.Errorf("Bins%v: %v, %v, %d, want %v, %v, %d", xs, re, im, shift, want.re, want.im, want.shift)
	}
}

// The chapter's two examples.
func TestExamples(t *testing.T) {
	wantRows(t, "Spins(1, 2)", fft.Spins(1, 2), [][]int{{3}, {-1}})
	wantBins(t, []int{1, 0, 0, 0}, bins{[]int{16384, 16384, 16384}, []int{0, 0, 0}, 0})
}

// P10.1
func TestSumWrittenOut(t *testing.T) {
	two, four, eight := []int{1, 2}, []int{1, 2, 3, 4}, []int{1, 2, 3, 4, 5, 6, 7, 8}
	for _, c := range []struct {
		k        int
		xs, want []int
	}{
		{0, two, []int{3}}, {1, two, []int{-1}}, {2, two, []int{3}}, {3, two, []int{-1}}, {-1, two, []int{-1}}, {-2, two, []int{3}},
		{least, two, []int{3}}, {greatest, two, []int{-1}}, {greatest - 1, two, []int{3}}, {least + 1, two, []int{-1}},
		{0, four, []int{10, 0}}, {1, four, []int{-2, -2}}, {2, four, []int{-2, 0}}, {3, four, []int{-2, 2}}, {4, four, []int{10, 0}}, {5, four, []int{-2, -2}},
		{-1, four, []int{-2, 2}}, {-2, four, []int{-2, 0}}, {-3, four, []int{-2, -2}}, {-4, four, []int{10, 0}}, {-5, four, []int{-2, 2}},
		{least, four, []int{10, 0}}, {least + 1, four, []int{-2, -2}}, {greatest, four, []int{-2, 2}}, {greatest - 1, four, []int{-2, 0}},
		{0, eight, []int{36, 0, 0, 0}}, {1, eight, []int{-4, -4, -4, -4}}, {2, eight, []int{-4, 0, -4, 0}}, {3, eight, []int{-4, -4, 4, -4}}, {4, eight, []int{-4, 0, 0, 0}},
		{7, eight, []int{-4, 4, 4, 4}}, {8, eight, []int{36, 0, 0, 0}}, {9, eight, []int{-4, -4, -4, -4}}, {-1, eight, []int{-4, 4, 4, 4}},
		// All goes round at 64 bits; the least number is itself, less.
		{0, []int{greatest, 1}, []int{least}}, {1, []int{greatest, 1}, []int{greatest - 1}}, {1, []int{least, 1}, []int{greatest}}, {0, []int{least, least}, []int{0}}, {1, []int{least, least}, []int{0}},
		{0, []int{0, least}, []int{least}}, {1, []int{0, least}, []int{least}}, {1, []int{least, 0, greatest, -1}, []int{1, 1}}, {1, []int{greatest, least, -1, least}, []int{least, 0}},
	} {
		if got := fft.Sum(c.k, c.xs...); !slices.Equal(got, c.want) {
			t.Errorf("Sum(%d, %v): %v, want %v", c.k, c.xs, got, c.want)
		}
	}
}

// P10.1
func TestSpinsWrittenOut(t *testing.T) {
	for _, c := range []struct {
		xs   []int
		want [][]int
	}{
		{[]int{1, 0}, [][]int{{1}, {1}}}, {[]int{0, 1}, [][]int{{1}, {-1}}}, {[]int{0, 0}, [][]int{{0}, {0}}}, {[]int{-5, 7}, [][]int{{2}, {-12}}},
		{[]int{greatest, 1}, [][]int{{least}, {greatest - 1}}}, {[]int{least, 1}, [][]int{{least + 1}, {greatest}}}, {[]int{0, least}, [][]int{{least}, {least}}},
		{[]int{1, 2, 3, 4}, [][]int{{10, 0}, {-2, -2}, {-2, 0}, {-2, 2}}}, {[]int{0, 1, 0, 0}, [][]int{{1, 0}, {0, 1}, {-1, 0}, {0, -1}}}, {[]int{0, 0, 0, 1}, [][]int{{1, 0}, {0, -1}, {-1, 0}, {0, 1}}},
		{[]int{0, 1, 0, 0, 0, 0, 0, 0}, [][]int{{1, 0, 0, 0}, {0, 1, 0, 0}, {0, 0, 1, 0}, {0, 0, 0, 1}, {-1, 0, 0, 0}, {0, -1, 0, 0}, {0, 0, -1, 0}, {0, 0, 0, -1}}},
		{[]int{0, 0, 0, 1, 0, 0, 0, 0}, [][]int{{1, 0, 0, 0}, {0, 0, 0, 1}, {0, 0, -1, 0}, {0, 1, 0, 0}, {-1, 0, 0, 0}, {0, 0, 0, -1}, {0, 0, 1, 0}, {0, -1, 0, 0}}},
	} {
		wantRows(t, "Spins", fft.Spins(c.xs...), c.want)
	}
}

// P10.1
func TestSumByTheWordsOfTheChapter(t *testing.T) {
	for _, n := range mayBe {
		for _, xs := range samples(n) {
			for _, k := range whiches(n) {
				if got, want := fft.Sum(k, xs...), spun(k, xs); !slices.Equal(got, want) {
					t.Fatalf("Sum(%d, %v): %v, want %v", k, xs, got, want)
				}
			}
		}
	}
}

// P10.1
func TestSpinsByTheWordsOfTheChapter(t *testing.T) {
	for _, n := range mayBe {
		for _, xs := range samples(n) {
			var want [][]int
			for k := range n {
				want = append(want, spun(k, xs))
			}
			wantRows(t, "Spins", fft.Spins(xs...), want)
		}
	}
}

// P10.1, P10.2, R1, R5: of lengths that may not be, be they long, there is nothing.
func TestLengthsThatMayNotBe(t *testing.T) {
	lengths := []int{128, 256, 1000, 1024, 1 << 16, 1 << 20}
	for n := range 140 {
		if !slices.Contains(mayBe, n) {
			lengths = append(lengths, n)
		}
	}
	for _, n := range lengths {
		xs := made(n, func(t int) int { return t + 1 })
		for _, k := range []int{0, 1, -1, n, n + 1, least, greatest} {
			if got := fft.Sum(k, xs...); len(got) != 0 {
				t.Errorf("Sum by %d of %d samples: %v", k, n, got)
			}
		}
		if got := fft.Spins(xs...); len(got) != 0 {
			t.Errorf("Spins of %d samples: %v", n, got)
		}
		re, im, shift := fft.Bins(xs...)
		if len(re) != 0 || len(im) != 0 || shift != 0 {
			t.Errorf("Bins of %d samples: %v, %v, %d", n, re, im, shift)
		}
	}
	if got := fft.Sum(3); len(got) != 0 {
		t.Errorf("Sum of no sample: %v", got)
	}
	if got := fft.Sum(1, nil...); len(got) != 0 {
		t.Errorf("Sum of nil: %v", got)
	}
	if got := fft.Spins(); len(got) != 0 {
		t.Errorf("Spins of no sample: %v", got)
	}
	if re, im, shift := fft.Bins(); len(re) != 0 || len(im) != 0 || shift != 0 {
		t.Errorf("Bins of no sample: %v, %v, %d", re, im, shift)
	}
}

// P10.1, P10.2: how many there are, and of which size.
func TestSizes(t *testing.T) {
	for _, n := range mayBe {
		xs := made(n, func(t int) int { return t * t })
		all := fft.Spins(xs...)
		if len(all) != n {
			t.Errorf("Spins of %d samples: %d", n, len(all))
		}
		for _, v := range append(all, fft.Sum(0, xs...), fft.Sum(n-1, xs...)) {
			if len(v) != n/2 {
				t.Errorf("a spin of %d samples has the size %d", n, len(v))
			}
		}
		if re, im, _ := fft.Bins(xs...); len(re) != n/2+1 || len(im) != n/2+1 {
			t.Errorf("Bins of %d samples: %d and %d", n, len(re), len(im))
		}
	}
}

// P10.2
func TestBinsWrittenOut(t *testing.T) {
	for _, c := range []struct {
		xs   []int
		want bins
	}{
		{[]int{0, 0}, bins{[]int{0, 0}, []int{0, 0}, 0}}, {[]int{1, 0}, bins{[]int{16384, 16384}, []int{0, 0}, 0}}, {[]int{0, -1}, bins{[]int{-16384, 16384}, []int{0, 0}, 0}},
		{[]int{0, 1, 0, 0}, bins{[]int{16384, 0, -16384}, []int{0, -16384, 0}, 0}}, {[]int{0, 0, 0, 1}, bins{[]int{16384, 0, -16384}, []int{0, 16384, 0}, 0}},
		{[]int{0, 1, 0, 0, 0, 0, 0, 0}, bins{[]int{16384, 11585, 0, -11585, -16384}, []int{0, -11585, -16384, -11585, 0}, 0}},
		// 16384 has just 15 bits, twice that 16, four times 17, eight times 18, 63 times 20.
		{[]int{1, 1}, bins{[]int{16384, 0}, []int{0, 0}, 1}}, {[]int{1, -1}, bins{[]int{0, 16384}, []int{0, 0}, 1}}, {[]int{-1, -1}, bins{[]int{-16384, 0}, []int{0, 0}, 1}},
		{[]int{4, 0, -4, 0}, bins{[]int{0, 16384, 0}, []int{0, 0, 0}, 3}}, {[]int{0, 2, 0, -2}, bins{[]int{0, 0, 0}, []int{0, -16384, 0}, 2}}, {[]int{63, 0}, bins{[]int{32256, 32256}, []int{0, 0}, 5}},
		// One bin moves the others down, those that are small, too; 11585 by 2 lies halfway, and goes up.
		{[]int{0, 1, 1, 0, 0, 0, 0, 0}, bins{[]int{16384, 5793, -8192, -5792, 0}, []int{0, -13984, -8192, 2400, 0}, 1}},
		{[]int{0, -1, -1, 0, 0, 0, 0, 0}, bins{[]int{-16384, -5792, 8192, 5793, 0}, []int{0, 13985, 8192, -2399, 0}, 1}},
		// What lies halfway goes up, above 0 and below, where it has 16 bits then, too.
		{[]int{32767, 0}, bins{[]int{32767, 32767}, []int{0, 0}, 14}}, {[]int{65535, 0}, bins{[]int{32768, 32768}, []int{0, 0}, 15}}, {[]int{-65535, 0}, bins{[]int{-32767, -32767}, []int{0, 0}, 15}},
		{[]int{65534, 1}, bins{[]int{32768, 32767}, []int{0, 0}, 15}}, {[]int{-65534, -1}, bins{[]int{-32767, -32766}, []int{0, 0}, 15}},
		// 2^50 times 16384 goes round to 0 at 64 bits, and half of it to the least number.
		{[]int{1 << 50, 0}, bins{[]int{0, 0}, []int{0, 0}, 0}}, {[]int{1<<50 + 1, 0}, bins{[]int{16384, 16384}, []int{0, 0}, 0}}, {[]int{1 << 49, 0}, bins{[]int{-16384, -16384}, []int{0, 0}, 49}},
		{[]int{1<<49 - 1, 0}, bins{[]int{32768, 32768}, []int{0, 0}, 48}}, {[]int{least, 0}, bins{[]int{0, 0}, []int{0, 0}, 0}}, {[]int{greatest, 0}, bins{[]int{-16384, -16384}, []int{0, 0}, 0}},
		{[]int{0, 1 << 49, 0, 0}, bins{[]int{-16384, 0, -16384}, []int{0, -16384, 0}, 49}}, {[]int{0, least, 0, 0}, bins{[]int{0, 0, 0}, []int{0, 0, 0}, 0}},
		{[]int{0, least, 0, 0, 0, 0, 0, 0}, bins{[]int{0, -16384, 0, -16384, 0}, []int{0, -16384, 0, -16384, 0}, 49}},
	} {
		wantBins(t, c.xs, c.want)
	}
}

// P10.2: of each length, of samples of any size, by the words of the chapter.
func TestBinsByTheWordsOfTheChapter(t *testing.T) {
	shifts := map[int]bool{}
	for _, n := range mayBe {
		for _, xs := range samples(n) {
			re, im, shift := binned(xs)
			wantBins(t, xs, bins{re, im, shift})
			shifts[shift] = true
		}
		for bits := range 64 {
			for seed := range 4 {
				next := chance(1000*n+64*seed+bits, bits)
				xs := made(n, func(int) int { return next() })
				re, im, shift := binned(xs)
				wantBins(t, xs, bins{re, im, shift})
				shifts[shift] = true
			}
		}
	}
	for _, shift := range []int{0, 1, 2, 16, 40, 48, 49} {
		if !shifts[shift] {
			t.Errorf("no samples had the shift %d", shift)
		}
	}
}

// P10.2: where the greatest bin is an imaginary one alone, and where it is the last bin's.
func TestShiftIsThatOfAllBins(t *testing.T) {
	for _, n := range mayBe[1:] {
		quarter := made(n, func(t int) int { return []int{0, 3, 0, -3}[t%4] })
		re, im, shift := binned(quarter)
		if top := slices.Max(re); top > 0 || im[n/4] >= 0 || shift == 0 {
			t.Fatalf("of %v: %v, %v, %d", quarter, re, im, shift)
		}
		wantBins(t, quarter, bins{re, im, shift})
		last := made(n, func(t int) int { return 5 - 10*(t%2) })
		re, im, shift = binned(last)
		if slices.Max(re) != re[n/2] || re[0] != 0 || shift == 0 {
			t.Fatalf("of %v: %v, %v, %d", last, re, im, shift)
		}
		wantBins(t, last, bins{re, im, shift})
	}
}

// P10.2
func TestPower(t *testing.T) {
	for _, c := range []struct{ re, im, want []int }{
		{nil, nil, nil}, {[]int{}, nil, nil}, {nil, []int{}, nil}, {[]int{1, 2}, nil, nil}, {nil, []int{1, 2}, nil},
		{[]int{3}, []int{4}, []int{25}}, {[]int{-3}, []int{4}, []int{25}}, {[]int{3}, []int{-4}, []int{25}}, {[]int{-3}, []int{-4}, []int{25}}, {[]int{0}, []int{0}, []int{0}},
		{[]int{3, 1, 0}, []int{4, 1, -7}, []int{25, 2, 49}}, {[]int{3, 1}, []int{4}, []int{25}}, {[]int{3}, []int{4, 1, 5}, []int{25}}, {[]int{1, 2, 3, 4}, []int{10, 20, 30}, []int{101, 404, 909}},
		{[]int{32768, 16384}, []int{-32768, 0}, []int{1 << 31, 1 << 28}},
		{[]int{1 << 31}, []int{0}, []int{1 << 62}}, {[]int{1 << 31}, []int{1 << 31}, []int{least}}, {[]int{1 << 32}, []int{1}, []int{1}}, {[]int{3037000500}, []int{0}, []int{-9223372036709301616}},
		{[]int{least}, []int{least}, []int{0}}, {[]int{greatest}, []int{greatest}, []int{2}}, {[]int{least, greatest}, []int{greatest, 5}, []int{1, 26}},
	} {
		if got := fft.Power(c.re, c.im); !slices.Equal(got, c.want) {
			t.Errorf("Power(%v, %v): %v, want %v", c.re, c.im, got, c.want)
		}
	}
}

// P10.2: rows of any two sizes, numbers of any size, in numbers of any length.
func TestPowerByTheWordsOfTheChapter(t *testing.T) {
	for _, m := range []int{0, 1, 2, 5, 33, 100} {
		for _, n := range []int{0, 1, 2, 5, 33, 100} {
			for _, bits := range []int{3, 15, 31, 32, 33, 50, 63} {
				next := chance(1000*m+n, bits)
				re, im := made(m, func(int) int { return next() }), made(n, func(int) int { return next() })
				want := made(min(m, n), func(b int) int {
					x := number(re[b], re[b])
					return goneRound(x.Add(x, number(im[b], im[b])))
				})
				wantRow(t, "Power", fft.Power(re, im), want)
			}
		}
	}
}

// P10.3
func TestEachOfSpinsIsSum(t *testing.T) {
	for _, n := range mayBe {
		for _, xs := range samples(n) {
			for k, v := range fft.Spins(xs...) {
				for _, same := range []int{k, k + n, k - n, least + k} {
					wantRow(t, "a spin", v, fft.Sum(same, xs...))
				}
			}
		}
	}
}

// P10.3
func TestSamplesComeBack(t *testing.T) {
	for _, n := range mayBe {
		for _, xs := range samples(n) {
			all := fft.Spins(xs...)
			for at, x := range xs {
				back := make([][]int, n)
				for k, v := range all {
					back[k] = spin.Turn(v, -k*at)
				}
				want := make([]int, n/2)
				want[0] = goneRound(number(n, x))
				wantRow(t, "a sample that came back", spin.Add(back...), want)
			}
		}
	}
}

// P10.3
func TestSpinsGoOverSums(t *testing.T) {
	for _, n := range mayBe {
		rows := samples(n)
		for i, a := range rows {
			b := rows[(i*7+3)%len(rows)]
			of, and := fft.Spins(a...), fft.Spins(b...)
			all, less := fft.Spins(spin.Add(a, b, a)...), fft.Spins(spin.Less(a, b)...)
			for k := range n {
				wantRow(t, "a spin of a sum", all[k], spin.Add(of[k], and[k], of[k]))
				wantRow(t, "a spin of a difference", less[k], spin.Less(of[k], and[k]))
				wantRow(t, "a sum of a sum", fft.Sum(k, spin.Add(a, b, a)...), all[k])
			}
		}
	}
}

// R3: what is handed in stays as it is, behind its end too.
func TestRowsStayAsTheyWere(t *testing.T) {
	for _, n := range append([]int{0, 1, 3, 65}, mayBe...) {
		for _, xs := range samples(n) {
			room := append(slices.Clone(xs), 1, 2, 3)
			was := slices.Clone(room)
			given := room[:n]
			for _, k := range []int{0, 1, -1, n} {
				fft.Sum(k, given...)
			}
			fft.Spins(given...)
			fft.Bins(given...)
			fft.Power(given, given)
			fft.Power(given, given[:n/2])
			wantRow(t, "a row that was handed in", room, was)
		}
	}
}

// rowsOf are all rows that the calls tell of samples, call by call.
func rowsOf(xs []int) [][]int {
	rows := append(fft.Spins(xs...), fft.Sum(0, xs...), fft.Sum(1, xs...))
	re, im, _ := fft.Bins(xs...)
	return append(rows, re, im, fft.Power(xs, xs), fft.Power(xs, xs[:1]))
}

// R3: what is told is the caller's own, each row for itself: it shares nothing with what was handed in, nor with another one, behind its end neither.
func TestWhatIsToldIsTheCallersOwn(t *testing.T) {
	for _, n := range mayBe {
		for _, xs := range [][]int{make([]int, n), made(n, func(t int) int { return t*t + 1 }), made(n, func(t int) int { return 1 - min(t, 1) })} {
			was, told := slices.Clone(xs), rowsOf(xs)
			var kept [][]int
			for _, row := range told {
				kept = append(kept, slices.Clone(row))
			}
			again := rowsOf(xs)
			for i, row := range told {
				for j := range row {
					row[j] = 77
				}
				_ = append(row, 78, 79)
				wantRow(t, "a row that was handed in", xs, was)
				wantRows(t, "rows that were told with it", told[i+1:], kept[i+1:])
			}
			wantRows(t, "rows that were told again", again, kept)
			for j := range xs {
				xs[j] = -9
			}
			wantRows(t, "rows that were told, once the samples are others", again, kept)
		}
	}
}
