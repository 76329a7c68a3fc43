package dct_test

import (
	"math"
	"math/big"
	"slices"
	"testing"

	"earshot/dct"
)

const (
	least    = math.MinInt
	greatest = math.MaxInt
)

// counts are how many bands there may be.
var counts = []int{4, 8, 16}

// wrongs are bands that may not be, to both ends, with some that would be right if higher bits were lost.
var wrongs = []int{
	least, least + 1, least + 4, least + 16, -1 << 32, -32, -17, -16, -15, -8, -5, -4, -3, -2, -1,
	0, 1, 2, 3, 5, 6, 7, 9, 10, 11, 12, 13, 14, 15, 17, 18, 20, 24, 31, 32, 33, 64, 1000, 1 << 16, 1<<32 + 4, 1<<32 + 8, 1<<62 + 16, greatest - 1, greatest,
}

// fours, eights and sixteens are all rows there are, written out.
var (
	fours = [][]int{
		{16384, 16384, 16384, 16384},
		{15137, 6270, -6270, -15137},
		{11585, -11585, -11585, 11585},
		{6270, -15137, 15137, -6270},
	}
	eights = [][]int{
		{16384, 16384, 16384, 16384, 16384, 16384, 16384, 16384},
		{16069, 13623, 9102, 3196, -3196, -9102, -13623, -16069},
		{15137, 6270, -6270, -15137, -15137, -6270, 6270, 15137},
		{13623, -3196, -16069, -9102, 9102, 16069, 3196, -13623},
		{11585, -11585, -11585, 11585, 11585, -11585, -11585, 11585},
		{9102, -16069, 3196, 13623, -13623, -3196, 16069, -9102},
		{6270, -15137, 15137, -6270, -6270, 15137, -15137, 6270},
		{3196, -9102, 13623, -16069, 16069, -13623, 9102, -3196},
	}
	sixteens = [][]int{
		{16384, 16384, 16384, 16384, 16384, 16384, 16384, 16384, 16384, 16384, 16384, 16384, 16384, 16384, 16384, 16384},
		{16305, 15679, 14449, 12665, 10394, 7723, 4756, 1606, -1606, -4756, -7723, -10394, -12665, -14449, -15679, -16305},
		{16069, 13623, 9102, 3196, -3196, -9102, -13623, -16069, -16069, -13623, -9102, -3196, 3196, 9102, 13623, 16069},
		{15679, 10394, 1606, -7723, -14449, -16305, -12665, -4756, 4756, 12665, 16305, 14449, 7723, -1606, -10394, -15679},
		{15137, 6270, -6270, -15137, -15137, -6270, 6270, 15137, 15137, 6270, -6270, -15137, -15137, -6270, 6270, 15137},
		{14449, 1606, -12665, -15679, -4756, 10394, 16305, 7723, -7723, -16305, -10394, 4756, 15679, 12665, -1606, -14449},
		{13623, -3196, -16069, -9102, 9102, 16069, 3196, -13623, -13623, 3196, 16069, 9102, -9102, -16069, -3196, 13623},
		{12665, -7723, -15679, 1606, 16305, 4756, -14449, -10394, 10394, 14449, -4756, -16305, -1606, 15679, 7723, -12665},
		{11585, -11585, -11585, 11585, 11585, -11585, -11585, 11585, 11585, -11585, -11585, 11585, 11585, -11585, -11585, 11585},
		{10394, -14449, -4756, 16305, -1606, -15679, 7723, 12665, -12665, -7723, 15679, 1606, -16305, 4756, 14449, -10394},
		{9102, -16069, 3196, 13623, -13623, -3196, 16069, -9102, -9102, 16069, -3196, -13623, 13623, 3196, -16069, 9102},
		{7723, -16305, 10394, 4756, -15679, 12665, 1606, -14449, 14449, -1606, -12665, 15679, -4756, -10394, 16305, -7723},
		{6270, -15137, 15137, -6270, -6270, 15137, -15137, 6270, 6270, -15137, 15137, -6270, -6270, 15137, -15137, 6270},
		{4756, -12665, 16305, -14449, 7723, 1606, -10394, 15679, -15679, 10394, -1606, -7723, 14449, -16305, 12665, -4756},
		{3196, -9102, 13623, -16069, 16069, -13623, 9102, -3196, -3196, 9102, -13623, 16069, -16069, 13623, -9102, 3196},
		{1606, -4756, 7723, -10394, 12665, -14449, 15679, -16305, 16305, -15679, 14449, -12665, 10394, -7723, 4756, -1606},
	}
)

// rows are those of so many bands.
func rows(bands int) [][]int {
	switch bands {
	case 4:
		return fours
	case 8:
		return eights
	}
	return sixteens
}

// chance tells numbers that look as if by chance, of so many bits at most and a sign, the same ones of each seed.
func chance(seed, bits int) func() int {
	x := uint64(seed)*2 + 1
	return func() int {
		x = x*6364136223846793005 + 1442695040888963407
		return int(x^x>>29) >> (63 - bits)
	}
}

// made is a row of n numbers, one by one.
func made(n int, number func(i int) int) []int {
	row := make([]int, n)
	for i := range row {
		row[i] = number(i)
	}
	return row
}

// alone is a row of n numbers of which one alone is not 0.
func alone(n, at, x int) []int {
	row := make([]int, n)
	row[at] = x
	return row
}

// back is a row the other way round.
func back(row []int) []int {
	row = slices.Clone(row)
	slices.Reverse(row)
	return row
}

// goneRound is a number of any length, at 64 bits.
func goneRound(x *big.Int) int {
	all := new(big.Int).Lsh(big.NewInt(1), 64)
	x = new(big.Int).Mod(x, all)
	if x.Bit(63) == 1 {
		x.Sub(x, all)
	}
	return int(x.Int64())
}

// halved is a number by 2^14, rounded, of two as near to the greater one, in numbers of any length.
func halved(x int) int {
	twice := new(big.Int).Lsh(big.NewInt(int64(x)), 1)
	twice.Add(twice, big.NewInt(1<<14))
	// Rsh goes down, of numbers below 0, too.
	return int(twice.Rsh(twice, 15).Int64())
}

// weighed is the sum of each number times that of a row, in numbers of any length, at 64 bits.
func weighed(xs, row []int) int {
	sum := new(big.Int)
	for m, x := range xs {
		sum.Add(sum, new(big.Int).Mul(big.NewInt(int64(x)), big.NewInt(int64(row[m]))))
	}
	return goneRound(sum)
}

// told goes by the words of the chapter, over the rows that are written out, in numbers of any length.
func told(coefs int, xs []int) []int {
	return made(coefs, func(k int) int {
		return halved(weighed(xs, rows(len(xs))[k]))
	})
}

func wantRow(t *testing.T, what string, got, want []int) {
	t.Helper()
	if !slices.Equal(got, want) {
		t.Errorf("%s: %v, want %v", what, got, want)
	}
}

func wantDct(t *testing.T, coefs int, xs []int, want ...int) {
	t.Helper()
	if got := dct.Dct(coefs, xs...); !slices.Equal(got, want) {
		t.Errorf("Dct(%d, %v): %v, want %v", coefs, xs, got, want)
	}
}

func wantLog(t *testing.T, x, want int) {
	t.Helper()
	wantRow(t, "a logarithm", dct.Logs(x), []int{want})
}

// The chapter's two examples.
func TestExamples(t *testing.T) {
	wantRow(t, "logarithms", dct.Logs(0, 1, 7, -5), []int{0, 256, 768, 0})
	wantRow(t, "coefficients", dct.Dct(2, 3, 3, 3, 3), []int{12, 0})
}

// P12.1
func TestLogsWrittenOut(t *testing.T) {
	for _, c := range []struct{ xs, want []int }{
		{nil, nil}, {[]int{}, nil}, {[]int{0}, []int{0}}, {[]int{0, 0}, []int{0, 0}},
		{[]int{1, 2, 3, 4, 5, 6, 7, 8}, []int{256, 405, 512, 594, 661, 718, 768, 811}},
		{[]int{3, 255, -1}, []int{512, 2048, 0}}, {[]int{-1, 255, 3}, []int{0, 2048, 512}},
		{[]int{-1, -2, -3, -8, -256, -1 << 32, least, least + 1}, []int{0, 0, 0, 0, 0, 0, 0, 0}},
		{[]int{greatest, least, greatest}, []int{63 * 256, 0, 63 * 256}}, {[]int{1<<62 - 1, 1<<32 - 1, 1<<31 - 1, 1<<63 - 2}, []int{62 * 256, 32 * 256, 31 * 256, 63*256 - 1}},
		{[]int{5, 5, 5, 2, 5}, []int{661, 661, 661, 405, 661}},
	} {
		wantRow(t, "logarithms", dct.Logs(c.xs...), c.want)
	}
}

// P12.1: of 2^k less 1 the logarithm is k times 256; one less, and one more, are beside it.
func TestLogsAboutPowersOfTwo(t *testing.T) {
	for k := range 63 {
		wantLog(t, 1<<k-1, 256*k)
		if k < 10 {
			continue
		}
		// From here on numbers are so near to each other that one more has the same 256th.
		wantLog(t, 1<<k, 256*k)
		wantLog(t, 1<<k-2, 256*k-1)
	}
	wantLog(t, greatest, 256*63)
}

// P12.1: each is 256 times the logarithm of the number, and 1; what the digits cut off is less than 1, and what their squares cut off may be one more.
func TestLogsAreLogarithms(t *testing.T) {
	for bits := range 63 {
		next := chance(bits, bits)
		xs := made(50, func(int) int { return next() })
		for i, log := range dct.Logs(xs...) {
			want := 256 * math.Log2(float64(max(xs[i], 0))+1)
			if got := float64(log); got > want+1e-6 || got <= want-2 {
				t.Errorf("Logs(%d): %v, where the logarithm is %v", xs[i], got, want)
			}
		}
	}
}

// P12.1, R5: as many are told as were handed in, in their order.
func TestLogsOfLongRows(t *testing.T) {
	xs := made(1<<18, func(i int) int { return i%5 - 2 })
	want := []int{0, 0, 0, 256, 405}
	wantRow(t, "a long row's logarithms", dct.Logs(xs...), made(len(xs), func(i int) int { return want[i%5] }))
}

// P12.2
func TestRowWrittenOut(t *testing.T) {
	for _, bands := range counts {
		for k, want := range rows(bands) {
			wantRow(t, "a row", dct.Row(k, bands), want)
		}
	}
}

// P12.2: what is written out are cosines: in 16384ths, of k times each middle of so many parts of half a turn.
func TestRowsAreCosines(t *testing.T) {
	for _, bands := range counts {
		if len(rows(bands)) != bands {
			t.Fatalf("%d rows of %d bands", len(rows(bands)), bands)
		}
		for k := range bands {
			row := dct.Row(k, bands)
			if len(row) != bands {
				t.Fatalf("Row(%d, %d): %v", k, bands, row)
			}
			for m, got := range row {
				want := 16384 * math.Cos(math.Pi*float64(k)*(float64(m)+0.5)/float64(bands))
				if math.Abs(float64(got)-want) > 1 {
					t.Errorf("Row(%d, %d): %d at %d, where the cosine is %v", k, bands, got, m, want)
				}
			}
		}
	}
}

// P12.2, R1: of a coefficient, or of bands, that may not be there is nothing.
func TestRowsThatMayNotBe(t *testing.T) {
	for _, bands := range wrongs {
		for _, k := range []int{least, -1, 0, 1, 2, 3, 4, 7, 8, 15, 16, greatest, bands - 1, bands, bands / 2} {
			wantRow(t, "a row of bands that may not be", dct.Row(k, bands), nil)
		}
	}
	for _, bands := range counts {
		for _, k := range []int{least, least + 1, least + bands, -1 << 32, -64, -bands - 1, -bands, 1 - bands, -2, -1, bands, bands + 1, 2*bands - 1, 2 * bands, 64, 64 + bands, 1 << 32, 1<<32 + 1, 1 << 62, greatest - 1, greatest} {
			wantRow(t, "a row of a coefficient that may not be", dct.Row(k, bands), nil)
		}
	}
}

// P12.3
func TestDctWrittenOut(t *testing.T) {
	for _, c := range []struct{ xs, want []int }{
		{[]int{4, 0, 0, 0}, []int{4, 4, 3, 2}}, {[]int{0, 4, 0, 0}, []int{4, 2, -3, -4}}, {[]int{0, 0, 4, 0}, []int{4, -2, -3, 4}}, {[]int{0, 0, 0, 4}, []int{4, -4, 3, -2}},
		{[]int{1, 2, 3, 4}, []int{10, -3, 0, 0}}, {[]int{4, 3, 2, 1}, []int{10, 3, 0, 0}}, {[]int{-1, -2, -3, -4}, []int{-10, 3, 0, 0}}, {[]int{0, 0, 0, 0}, []int{0, 0, 0, 0}},
		{[]int{16384, 0, 0, 0}, fours4(0)}, {[]int{0, 0, 16384, 0}, fours4(2)}, {[]int{-16384, 0, 0, 0}, []int{-16384, -15137, -11585, -6270}},
		{[]int{100, -200, 300, -400}, []int{-200, 271, -283, 653}},
		{[]int{1, 2, 3, 4, 5, 6, 7, 8}, []int{36, -13, 0, -1, 0, 0, 0, 0}}, {[]int{0, 0, 0, 10, 0, 0, 0, 0}, []int{10, 2, -9, -6, 7, 8, -4, -10}}, {[]int{0, 0, 0, 0, 0, 0, 0, -10}, []int{-10, 10, -9, 8, -7, 6, -4, 2}},
		{[]int{0, 0, 0, 0, 0, 0, 0, 0, 0, 0, 0, 0, 0, 0, 0, 10}, []int{10, -10, 10, -10, 9, -9, 8, -8, 7, -6, 6, -5, 4, -3, 2, -1}},
		{[]int{256, 0, 0, 0, 0, 0, 0, 0, 0, 0, 0, 0, 0, 0, 0, 0}, []int{256, 255, 251, 245, 237, 226, 213, 198, 181, 162, 142, 121, 98, 74, 50, 25}},
	} {
		wantDct(t, len(c.want), c.xs, c.want...)
	}
}

// fours4 is, of each row of four, what stands at a place.
func fours4(at int) []int {
	return made(4, func(k int) int { return fours[k][at] })
}

// P12.3: of each count of coefficients that may be, rows of any numbers, by the words of the chapter.
func TestDctByTheWordsOfTheChapter(t *testing.T) {
	for _, bands := range counts {
		for bits := range 64 {
			next := chance(bands+bits, bits)
			for range 8 {
				xs := made(bands, func(int) int { return next() })
				for coefs := 1; coefs <= bands; coefs++ {
					wantDct(t, coefs, xs, told(coefs, xs)...)
				}
			}
		}
	}
}

// P12.3: with one number at each place, which tells just what stands there in each row.
func TestDctOfOneNumber(t *testing.T) {
	for _, bands := range counts {
		for at := range bands {
			want := made(bands, func(k int) int { return rows(bands)[k][at] })
			wantDct(t, bands, alone(bands, at, 16384), want...)
			for _, x := range []int{1, -1, 3, 8191, 8192, -8192, 1 << 31, -1 << 31, 1 << 48, 1 << 49, 1 << 50, greatest, least} {
				xs := alone(bands, at, x)
				wantDct(t, bands, xs, told(bands, xs)...)
			}
		}
	}
}

// P12.3, R1: of numbers, or a count of coefficients, that may not be there is nothing.
func TestDctThatMayNotBe(t *testing.T) {
	for _, n := range []int{0, 1, 2, 3, 5, 6, 7, 9, 10, 11, 12, 13, 14, 15, 17, 18, 20, 24, 31, 32, 33, 64, 100, 1 << 16} {
		xs := made(n, func(i int) int { return 7*i + 3 })
		for _, coefs := range []int{least, -1, 0, 1, 2, 3, 4, 8, 16, n - 1, n, n + 1, greatest} {
			wantDct(t, coefs, xs)
		}
	}
	for _, n := range counts {
		xs := made(n, func(i int) int { return 7*i + 3 })
		for _, coefs := range []int{least, least + 1, least + n, -1 << 32, -n, -2, -1, 0, n + 1, n + 2, 2 * n, 64, 1<<32 + 1, 1<<62 + 4, greatest - 1, greatest} {
			wantDct(t, coefs, xs)
		}
	}
}

// P12.3: products, and sums of products that fit, go round at 64 bits, ahead of the division.
func TestDctGoesRound(t *testing.T) {
	for _, c := range []struct{ xs, want []int }{
		{[]int{1 << 49, 0, 0, 0}, []int{-1 << 49}}, {[]int{1<<49 - 1, 0, 0, 0}, []int{1<<49 - 1}}, {[]int{-1 << 49, 0, 0, 0}, []int{-1 << 49}}, {[]int{-1<<49 - 1, 0, 0, 0}, []int{1<<49 - 1}}, {[]int{1 << 50, 0, 0, 0}, []int{0}}, {[]int{1<<50 + 7, 0, 0, 0}, []int{7}},
		{[]int{greatest, 0, 0, 0}, []int{-1}}, {[]int{least, 0, 0, 0}, []int{0}}, {[]int{greatest, greatest, greatest, greatest}, []int{-4}}, {[]int{least, greatest, 5, 0}, []int{4}},
		// Each product fits, and the sum does not.
		{[]int{1 << 48, 1 << 48, 0, 0}, []int{-1 << 49}}, {[]int{0, 0, 1 << 48, 1<<48 - 1}, []int{1<<49 - 1}}, {[]int{1 << 48, 1 << 48, 1 << 48, 1 << 48}, []int{0}}, {[]int{-1 << 48, -1 << 48, -1, 0}, []int{1<<49 - 1}},
		// It goes round on its way, and back again.
		{[]int{1 << 48, 1 << 48, -1 << 48, 5}, []int{1<<48 + 5}},
		// What is left of each cosine by 4 alone does not go off.
		{[]int{1 << 62, 0, 0, 0}, []int{0, 1 << 48, 1 << 48, -1 << 49}},
	} {
		wantDct(t, len(c.want), c.xs, c.want...)
	}
	wantDct(t, 1, made(16, func(int) int { return 1 << 45 }), -1<<49)
	wantDct(t, 1, made(8, func(int) int { return 1 << 46 }), -1<<49)
}

// inverse is the number by which one that is odd comes to 1, at 64 bits.
func inverse(odd int) int {
	by := odd
	for range 6 {
		by *= 2 - odd*by
	}
	return by
}

// P12.3: each sum that there may be, made by one number: rounded to the nearest, of two as near to the greater one, and nothing goes round in rounding.
func TestDctIsRounded(t *testing.T) {
	sums := []int{least, least + 1, least + 8191, least + 8192, least + 8193, greatest, greatest - 8190, greatest - 8191, greatest - 8192, greatest - 16383}
	for _, at := range []int{0, 16384, -16384, 5 * 16384, -5 * 16384, 1 << 40, -1 << 40} {
		sums = append(sums, at-8193, at-8192, at-8191, at-1, at, at+1, at+8191, at+8192, at+8193)
	}
	for _, bands := range counts {
		by := inverse(rows(bands)[1][0])
		for _, sum := range sums {
			if got := dct.Dct(2, alone(bands, 0, sum*by)...); len(got) != 2 || got[1] != halved(sum) {
				t.Errorf("of a sum of %d, of %d numbers: %v, want %d", sum, bands, got, halved(sum))
			}
		}
	}
}

// P12.3: rounding, written out: half up, of sums above and below 0.
func TestDctRoundedWrittenOut(t *testing.T) {
	wantDct(t, 4, []int{8192, 0, 0, 0}, 8192, 7569, 5793, 3135)
	wantDct(t, 4, []int{-8192, 0, 0, 0}, -8192, -7568, -5792, -3135)
	wantDct(t, 4, []int{1, 0, 0, 0}, 1, 1, 1, 0)
	wantDct(t, 4, []int{-1, 0, 0, 0}, -1, -1, -1, 0)
	wantDct(t, 2, []int{0, 0, 0, 0, 8192, 0, 0, 0}, 8192, -1598)
	wantDct(t, 2, []int{8192, 0, 0, 0, 0, 0, 0, 0}, 8192, 8035)
	wantDct(t, 2, []int{-8192, 0, 0, 0, 0, 0, 0, 0}, -8192, -8034)
	wantDct(t, 2, []int{0, 0, 0, 0, 0, 0, 0, 8192}, 8192, -8034)
}

// P12.4: numbers that are all the same have a coefficient 0 alone, whatever goes round; it is as many times the number, where that fits.
func TestAllTheSame(t *testing.T) {
	for _, bands := range counts {
		most := greatest / (16384 * bands)
		for _, x := range []int{0, 1, -1, 3, -3, 255, 32768, -32768, 1<<31 - 1, -1 << 31, most, -most} {
			want := alone(bands, 0, bands*x)
			wantDct(t, bands, made(bands, func(int) int { return x }), want...)
		}
		for _, x := range []int{most + 1, 1 << 48, 1<<49 + 3, 1<<60 + 12345, 1 << 62, greatest, least, least + 1} {
			got := dct.Dct(bands, made(bands, func(int) int { return x })...)
			if len(got) != bands {
				t.Fatalf("%d coefficients of %d numbers", len(got), bands)
			}
			wantRow(t, "the others of numbers that are the same", got[1:], make([]int, bands-1))
		}
	}
}

// P12.4: the other way round coefficients of an even place are the same, those of an odd one turned, but for rounding: just where a half was rounded up, which goes up the other way round, too.
func TestTheOtherWayRound(t *testing.T) {
	for _, bands := range counts {
		for _, bits := range []int{1, 3, 8, 15, 24, 40, 44} {
			next := chance(bands*bits, bits)
			for range 50 {
				xs := made(bands, func(int) int { return next() })
				wantTurned(t, xs)
				xs[0] += 8192
				wantTurned(t, xs)
			}
		}
		for at := range bands {
			wantTurned(t, alone(bands, at, 8192))
		}
		row := made(bands, func(i int) int { return min(i, bands-1-i) })
		for k, x := range dct.Dct(bands, row...) {
			if k%2 == 1 && x != 0 {
				t.Errorf("Dct of %v, which is the same the other way round: %d at %d", row, x, k)
			}
		}
	}
}

// wantTurned asks that some numbers, the other way round, have the same coefficients, but for the signs of each second one, and rounding.
func wantTurned(t *testing.T, xs []int) {
	t.Helper()
	there, other := dct.Dct(len(xs), xs...), dct.Dct(len(xs), back(xs)...)
	if len(there) != len(xs) || len(other) != len(xs) {
		t.Fatalf("%d, and %d, coefficients of %d numbers", len(there), len(other), len(xs))
	}
	for k, x := range there {
		want := x
		if k%2 == 1 {
			want = -x
			if weighed(xs, rows(len(xs))[k])&16383 == 8192 {
				want++
			}
		}
		if other[k] != want {
			t.Errorf("Dct of %v, the other way round: %d at %d, and %d there", xs, other[k], k, x)
		}
	}
}

// P12.3: fewer coefficients are the first of more.
func TestFewerAreTheFirstOfMore(t *testing.T) {
	for _, bands := range counts {
		for _, bits := range []int{4, 16, 31, 63} {
			next := chance(bands-bits+63, bits)
			xs := made(bands, func(int) int { return next() })
			all := dct.Dct(bands, xs...)
			for coefs := 1; coefs <= len(all); coefs++ {
				wantDct(t, coefs, xs, all[:coefs]...)
			}
		}
	}
}

// R3: what is handed in stays as it is, behind its end too.
func TestRowsStayAsTheyWere(t *testing.T) {
	for _, n := range []int{0, 1, 3, 4, 8, 16} {
		xs := made(n+3, func(i int) int { return 5 - i*i })
		was := slices.Clone(xs)
		dct.Logs(xs[:n]...)
		dct.Dct(1, xs[:n]...)
		dct.Dct(n, xs[:n]...)
		wantRow(t, "numbers that were handed in", xs, was)
	}
}

// R3: what is told is the caller's own: it shares nothing with what was handed in, nor with what is told again.
func TestWhatIsToldIsTheCallersOwn(t *testing.T) {
	xs := []int{9, 10, -20, 30}
	for _, told := range []func() []int{
		func() []int { return dct.Logs(xs...) },
		func() []int { return dct.Row(0, 4) },
		func() []int { return dct.Row(15, 16) },
		func() []int { return dct.Dct(4, xs...) },
		func() []int { return dct.Dct(1, xs...) },
	} {
		row := told()
		want := slices.Clone(row)
		again := told()
		for i := range row {
			row[i] = 77
		}
		_ = append(row, 78, 79)
		wantRow(t, "a row that was told ahead of it", again, want)
		wantRow(t, "a row that is told behind it", told(), want)
		wantRow(t, "numbers that were handed in", xs, []int{9, 10, -20, 30})
	}
	logs, coefs := dct.Logs(xs...), dct.Dct(1, xs...)
	xs[0], xs[1] = 99, 2
	wantRow(t, "logarithms that were told, once the numbers are others", logs, []int{850, 885, 0, 1268})
	wantRow(t, "coefficients that were told, once the numbers are others", coefs, []int{29})
}
