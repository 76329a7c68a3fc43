package spin_test

import (
	"math"
	"math/big"
	"slices"
	"testing"

	"earshot/spin"
)

const (
	least    = math.MinInt
	greatest = math.MaxInt
)

// mayBe are the sizes of which there are parts.
var mayBe = []int{1, 2, 4, 8, 16, 32}

// anySize are sizes of spins that are turned and added.
var anySize = []int{0, 1, 2, 3, 4, 5, 6, 7, 8, 9, 12, 16, 31, 32, 33, 50}

// cosines are those of half a circle, in 64ths, written out; the sines are these, a quarter ahead.
var cosines = []int{
	16384, 16305, 16069, 15679, 15137, 14449, 13623, 12665, 11585, 10394, 9102, 7723, 6270, 4756, 3196, 1606,
	0, -1606, -3196, -4756, -6270, -7723, -9102, -10394, -11585, -12665, -13623, -14449, -15137, -15679, -16069, -16305,
}

var sines = []int{
	0, 1606, 3196, 4756, 6270, 7723, 9102, 10394, 11585, 12665, 13623, 14449, 15137, 15679, 16069, 16305,
	16384, 16305, 16069, 15679, 15137, 14449, 13623, 12665, 11585, 10394, 9102, 7723, 6270, 4756, 3196, 1606,
}

// chance tells numbers of any size that look as if by chance, the same ones of each seed.
func chance(seed int) func() int {
	x := uint64(seed)*2 + 1
	return func() int {
		x = x*6364136223846793005 + 1442695040888963407
		y := x ^ x>>29
		return int(y) >> (x >> 58)
	}
}

// spins are rows of that size: of one number that is 1, of numbers none of which is as another one, of both ends, and some that look as if by chance.
func spins(size int) [][]int {
	var rows [][]int
	for at := range size {
		row := make([]int, size)
		row[at] = 1
		rows = append(rows, row)
	}
	for _, number := range []func(j int) int{
		func(j int) int { return j + 1 },
		func(j int) int { return -3*j - 7 },
		func(int) int { return 0 },
		func(int) int { return least },
		func(int) int { return greatest },
		func(j int) int { return []int{least, greatest, least + 1, -1, 1}[j%5] },
	} {
		row := make([]int, size)
		for j := range row {
			row[j] = number(j)
		}
		rows = append(rows, row)
	}
	for seed := range 6 {
		next := chance(100*size + seed)
		row := make([]int, size)
		for j := range row {
			row[j] = next()
		}
		rows = append(rows, row)
	}
	return rows
}

// turns are those about each quarter of a spin's round to both sides, far ones, and the ends of 64 bits.
func turns(size int) []int {
	row := []int{least, least + 1, least + 2, greatest, greatest - 1, greatest - 2, 1 << 62, -1 << 62, 1<<32 + 1, -1<<32 - 1, 1000003, -1000003}
	for k := -5; k <= 5; k++ {
		row = append(row, k*size-1, k*size, k*size+1, k*size/2)
	}
	for k := range size {
		row = append(row, least+k, greatest-k, least+size+k, greatest-size-k)
	}
	slices.Sort(row)
	return slices.Compact(row)
}

// onward is a spin turned once: all go one place on, and the last one comes to the front with its sign turned.
func onward(v []int) []int {
	last := len(v) - 1
	return append([]int{0 - v[last]}, v[:last]...)
}

// turned goes by as many single turns as are left of k, in numbers of any length.
func turned(v []int, k int) []int {
	if len(v) == 0 {
		return nil
	}
	left := new(big.Int).Mod(big.NewInt(int64(k)), big.NewInt(int64(2*len(v)))).Int64()
	for range left {
		v = onward(v)
	}
	return v
}

// goneRound is a number of any length, at 64 bits.
func goneRound(x *big.Int) int {
	all := new(big.Int).Lsh(big.NewInt(1), 64)
	x = new(big.Int).Mod(x, all)
	if x.Bit(63) == 1 {
		x.Sub(x, all)
	}
	return int(x.Int64())
}

// signed is the sum of plus, place by place, less that of minus, in numbers of any length.
func signed(size int, plus, minus [][]int) []int {
	row := make([]int, size)
	for j := range row {
		x := new(big.Int)
		for _, v := range plus {
			x.Add(x, big.NewInt(int64(v[j])))
		}
		for _, v := range minus {
			x.Sub(x, big.NewInt(int64(v[j])))
		}
		row[j] = goneRound(x)
	}
	return row
}

// weighed is the sum of the numbers, each times sign and that of its place of half a circle, in numbers of any length.
func weighed(v []int, sign int, places []int) int {
	x := new(big.Int)
	for j, y := range v {
		w := big.NewInt(int64(sign * places[32*j/len(v)]))
		x.Add(x, w.Mul(w, big.NewInt(int64(y))))
	}
	return goneRound(x)
}

func wantRow(t *testing.T, what string, got, want []int) {
	t.Helper()
	if !slices.Equal(got, want) {
		t.Errorf("%s: %v, want %v", what, got, want)
	}
}

func wantNumber(t *testing.T, what string, of []int, got, want int) {
	t.Helper()
	if got != want {
		t.Errorf("%s(%v): %d, want %d", what, of, got, want)
	}
}

// The chapter's two examples.
func TestExamples(t *testing.T) {
	wantRow(t, "Turn of 1, 2, 3, 4 by 1", spin.Turn([]int{1, 2, 3, 4}, 1), []int{-4, 1, 2, 3})
	wantNumber(t, "Real", []int{0, 1}, spin.Real([]int{0, 1}), 0)
	wantNumber(t, "Imag", []int{0, 1}, spin.Imag([]int{0, 1}), -16384)
}

// P9.1
func TestTurnWrittenOut(t *testing.T) {
	four, three := []int{1, 2, 3, 4}, []int{5, 6, 7}
	for _, c := range []struct {
		v    []int
		k    int
		want []int
	}{
		{four, 0, []int{1, 2, 3, 4}}, {four, 2, []int{-3, -4, 1, 2}}, {four, 3, []int{-2, -3, -4, 1}}, {four, 4, []int{-1, -2, -3, -4}}, {four, 5, []int{4, -1, -2, -3}},
		{four, 6, []int{3, 4, -1, -2}}, {four, 7, []int{2, 3, 4, -1}}, {four, 8, []int{1, 2, 3, 4}}, {four, 9, []int{-4, 1, 2, 3}}, {four, -1, []int{2, 3, 4, -1}},
		{four, -3, []int{4, -1, -2, -3}}, {four, -4, []int{-1, -2, -3, -4}}, {four, -5, []int{-2, -3, -4, 1}}, {four, -8, []int{1, 2, 3, 4}}, {four, -9, []int{2, 3, 4, -1}},
		{four, least, []int{1, 2, 3, 4}}, {four, least + 1, []int{-4, 1, 2, 3}}, {four, greatest, []int{2, 3, 4, -1}}, {four, greatest - 1, []int{3, 4, -1, -2}},
		// The least number is 6 times something, less 2; the greatest one 6 times something, and 1.
		{three, 1, []int{-7, 5, 6}}, {three, 2, []int{-6, -7, 5}}, {three, 3, []int{-5, -6, -7}}, {three, 4, []int{7, -5, -6}}, {three, 5, []int{6, 7, -5}}, {three, 6, []int{5, 6, 7}},
		{three, -1, []int{6, 7, -5}}, {three, -2, []int{7, -5, -6}}, {three, least, []int{7, -5, -6}}, {three, greatest, []int{-7, 5, 6}},
		{[]int{9}, 0, []int{9}}, {[]int{9}, 1, []int{-9}}, {[]int{9}, 2, []int{9}}, {[]int{9}, 3, []int{-9}}, {[]int{9}, -1, []int{-9}}, {[]int{9}, -2, []int{9}},
		{[]int{9}, least, []int{9}}, {[]int{9}, greatest, []int{-9}},
		{[]int{least, greatest}, 1, []int{-greatest, least}}, {[]int{least, greatest}, 2, []int{least, -greatest}}, {[]int{1, least}, 1, []int{least, 1}}, {[]int{least}, 1, []int{least}},
	} {
		if got := spin.Turn(c.v, c.k); !slices.Equal(got, c.want) {
			t.Errorf("Turn(%v, %d): %v, want %v", c.v, c.k, got, c.want)
		}
	}
}

// P9.1
func TestTurnByTheWordsOfTheChapter(t *testing.T) {
	for _, size := range anySize {
		for _, v := range spins(size) {
			for _, k := range turns(size) {
				if got, want := spin.Turn(v, k), turned(v, k); !slices.Equal(got, want) {
					t.Fatalf("Turn(%v, %d): %v, want %v", v, k, got, want)
				}
			}
		}
	}
}

// P9.1, R1
func TestTurnOfNothing(t *testing.T) {
	for _, v := range [][]int{nil, {}, make([]int, 0, 5)} {
		for _, k := range append(turns(0), turns(3)...) {
			if got := spin.Turn(v, k); len(got) != 0 {
				t.Errorf("Turn of nothing by %d: %v", k, got)
			}
		}
	}
}

// P9.1, R5: rows that are long.
func TestTurnOfLongRows(t *testing.T) {
	const size = 100001
	v := make([]int, size)
	for j := range v {
		v[j] = j + 1
	}
	for _, c := range []struct{ k, place, sign int }{{1, 1, 1}, {size, 0, -1}, {size + 2, 2, -1}, {2 * size, 0, 1}, {-1, size - 1, -1}, {-size - 3, size - 3, 1}} {
		got := spin.Turn(v, c.k)
		if len(got) != size || got[c.place] != c.sign {
			t.Errorf("Turn of a long row by %d: %d numbers, want its first one at %d", c.k, len(got), c.place)
		}
	}
}

// P9.1
func TestAddWrittenOut(t *testing.T) {
	for _, c := range []struct {
		vs   [][]int
		want []int
	}{
		{nil, nil}, {[][]int{}, nil}, {[][]int{nil}, nil}, {[][]int{{}}, nil}, {[][]int{nil, {}, nil}, nil},
		{[][]int{{7}}, []int{7}}, {[][]int{{1, -2, 3}}, []int{1, -2, 3}}, {[][]int{{1}, {2}, {3}, {4}}, []int{10}},
		{[][]int{{1, 2, 3}, {10, 20, 30}}, []int{11, 22, 33}}, {[][]int{{1, 2}, {-1, -2}, {5, 6}}, []int{5, 6}},
		{[][]int{{greatest, least}, {1, -1}}, []int{least, greatest}}, {[][]int{{least}, {least}}, []int{0}}, {[][]int{{greatest}, {greatest}, {greatest}}, []int{greatest - 2}},
		{[][]int{{greatest}, {1}, {-1}}, []int{greatest}},
		{[][]int{{1}, {1, 2}}, nil}, {[][]int{{1, 2}, {1}}, nil}, {[][]int{{1, 2}, {1, 2}, {1}}, nil}, {[][]int{{1, 2}, {1, 2}, {1, 2, 3}}, nil},
		{[][]int{{1}, {1, 2}, {1, 2}}, nil}, {[][]int{{1, 2}, {1}, {1, 2}}, nil}, {[][]int{nil, {1}}, nil}, {[][]int{{1}, nil}, nil}, {[][]int{{1}, {2}, {}}, nil}, {[][]int{{}, {1}, {2}}, nil},
	} {
		if got := spin.Add(c.vs...); !slices.Equal(got, c.want) {
			t.Errorf("Add(%v): %v, want %v", c.vs, got, c.want)
		}
	}
}

// P9.1
func TestAddAndLessByTheWordsOfTheChapter(t *testing.T) {
	for _, size := range anySize {
		rows := spins(size)
		wantRow(t, "Add of all", spin.Add(rows...), signed(size, rows, nil))
		for _, a := range rows {
			wantRow(t, "Add of one", spin.Add(a), a)
			for _, b := range rows {
				wantRow(t, "Add of two", spin.Add(a, b), signed(size, [][]int{a, b}, nil))
				wantRow(t, "Add of three", spin.Add(a, b, a), signed(size, [][]int{a, b, a}, nil))
				wantRow(t, "Less", spin.Less(a, b), signed(size, [][]int{a}, [][]int{b}))
			}
		}
	}
}

// P9.1
func TestLessWrittenOut(t *testing.T) {
	for _, c := range []struct{ a, b, want []int }{
		{nil, nil, nil}, {nil, []int{}, nil}, {[]int{5}, []int{7}, []int{-2}}, {[]int{1, 2, 3, 4}, []int{4, 3, 2, 1}, []int{-3, -1, 1, 3}}, {[]int{1, 2, 3}, []int{1, 0, -1}, []int{0, 2, 4}},
		{[]int{least}, []int{1}, []int{greatest}}, {[]int{greatest}, []int{-1}, []int{least}}, {[]int{0, -1}, []int{least, least}, []int{least, greatest}}, {[]int{least}, []int{least}, []int{0}},
		{[]int{1}, nil, nil}, {nil, []int{1}, nil}, {[]int{1, 2}, []int{1}, nil}, {[]int{1}, []int{1, 2}, nil}, {[]int{1, 2, 3, 4}, []int{1, 2, 3}, nil}, {[]int{0, 0, 0}, []int{0, 0, 0, 0}, nil},
	} {
		if got := spin.Less(c.a, c.b); !slices.Equal(got, c.want) {
			t.Errorf("Less(%v, %v): %v, want %v", c.a, c.b, got, c.want)
		}
	}
}

// P9.1: of sizes that differ, there is no sum and no difference, whatever they are.
func TestAddAndLessOfOtherSizes(t *testing.T) {
	for _, m := range anySize {
		for _, n := range anySize {
			if m == n {
				continue
			}
			a, b := make([]int, m), make([]int, n)
			for _, got := range [][]int{spin.Add(a, b), spin.Add(a, a, b), spin.Add(b, a, a), spin.Add(a, b, a), spin.Less(a, b)} {
				if len(got) != 0 {
					t.Errorf("of the sizes %d and %d: %v", m, n, got)
				}
			}
		}
	}
}

// P9.2
func TestPartsWrittenOut(t *testing.T) {
	for _, c := range []struct {
		v          []int
		real, imag int
	}{
		{[]int{1}, 16384, 0}, {[]int{3}, 49152, 0}, {[]int{-5}, -81920, 0}, {[]int{1, 0}, 16384, 0}, {[]int{2, -3}, 32768, 49152},
		{[]int{0, 1, 0, 0}, 11585, -11585}, {[]int{0, 0, 1, 0}, 0, -16384}, {[]int{0, 0, 0, 1}, -11585, -11585}, {[]int{1, 2, 3, 4}, -6786, -118662},
		{[]int{0, 1, 0, 0, 0, 0, 0, 0}, 15137, -6270}, {[]int{0, 0, 0, 0, 0, 0, 0, 1}, -15137, -6270},
		{append([]int{0, 1}, make([]int, 14)...), 16069, -3196}, {append([]int{0, 1}, make([]int, 30)...), 16305, -1606}, {append(make([]int, 31), 1), -16305, -1606},
		// 2^50 times 16384 goes round to 0; the ends are minus 2^63, and one less than 2^63.
		{[]int{1 << 50}, 0, 0}, {[]int{1<<50 + 1}, 16384, 0}, {[]int{1 << 49}, least, 0}, {[]int{1<<49 - 1}, greatest - 16383, 0}, {[]int{least}, 0, 0}, {[]int{greatest}, -16384, 0},
		{[]int{greatest, greatest}, -16384, 16384}, {[]int{0, 1 << 49}, 0, least}, {[]int{0, least, 0, 0}, least, least}, {[]int{0, greatest, 0, 0}, greatest - 11584, least + 11585},
	} {
		wantNumber(t, "Real", c.v, spin.Real(c.v), c.real)
		wantNumber(t, "Imag", c.v, spin.Imag(c.v), c.imag)
	}
}

// P9.2
func TestPartsByTheWordsOfTheChapter(t *testing.T) {
	for _, size := range mayBe {
		for _, v := range spins(size) {
			wantNumber(t, "Real", v, spin.Real(v), weighed(v, 1, cosines))
			wantNumber(t, "Imag", v, spin.Imag(v), weighed(v, -1, sines))
		}
	}
}

// P9.2
func TestPartsOfSizesThatMayNotBe(t *testing.T) {
	wantNumber(t, "Real", nil, spin.Real(nil), 0)
	wantNumber(t, "Imag", nil, spin.Imag(nil), 0)
	for size := range 300 {
		if slices.Contains(mayBe, size) {
			continue
		}
		for _, v := range spins(size) {
			wantNumber(t, "Real", v, spin.Real(v), 0)
			wantNumber(t, "Imag", v, spin.Imag(v), 0)
		}
	}
}

// P9.3: two turns are one of both, where both together are a number.
func TestTwoTurnsAreOne(t *testing.T) {
	for _, size := range anySize {
		for _, v := range spins(size)[size:] {
			for k := -2*size - 1; k <= 2*size+1; k += 1 + size/4 {
				for _, l := range turns(size) {
					if sum := k + l; sum > l == (k > 0) {
						wantRow(t, "two turns", spin.Turn(spin.Turn(v, k), l), spin.Turn(v, sum))
						wantRow(t, "two turns", spin.Turn(spin.Turn(v, l), k), spin.Turn(v, sum))
					}
				}
			}
		}
	}
}

// P9.3: one by one, too: h of them turn the signs, 2 h change nothing.
func TestTurnsAllRound(t *testing.T) {
	for _, size := range anySize {
		for _, v := range spins(size) {
			signs := make([]int, size)
			for j, x := range v {
				signs[j] = 0 - x
			}
			wantRow(t, "h turns", spin.Turn(v, size), signs)
			wantRow(t, "h turns back", spin.Turn(v, -size), signs)
			wantRow(t, "2 h turns", spin.Turn(v, 2*size), v)
			wantRow(t, "2 h turns back", spin.Turn(v, -2*size), v)
			row := v
			for range size {
				row = spin.Turn(row, 1)
			}
			wantRow(t, "h turns, one by one", row, signs)
			for range size {
				row = spin.Turn(row, 1)
			}
			wantRow(t, "2 h turns, one by one", row, v)
			wantRow(t, "a spin and h turns of it", spin.Add(v, spin.Turn(v, size)), make([]int, size))
		}
	}
}

// P9.3
func TestTurningGoesOverSums(t *testing.T) {
	for _, size := range anySize {
		rows := spins(size)[size:]
		for _, a := range rows {
			for _, b := range rows {
				for k := -2*size - 1; k <= 2*size+1; k += 1 + size/4 {
					x, y := spin.Turn(a, k), spin.Turn(b, k)
					wantRow(t, "a sum, turned", spin.Turn(spin.Add(a, b, a), k), spin.Add(x, y, x))
					wantRow(t, "a difference, turned", spin.Turn(spin.Less(a, b), k), spin.Less(x, y))
				}
			}
		}
	}
}

// P9.3
func TestPartsGoOverSums(t *testing.T) {
	for _, size := range mayBe {
		rows := spins(size)
		for _, a := range rows {
			for _, b := range rows {
				all, less := spin.Add(a, b), spin.Less(a, b)
				wantNumber(t, "Real", all, spin.Real(all), spin.Real(a)+spin.Real(b))
				wantNumber(t, "Imag", all, spin.Imag(all), spin.Imag(a)+spin.Imag(b))
				wantNumber(t, "Real", less, spin.Real(less), spin.Real(a)-spin.Real(b))
				wantNumber(t, "Imag", less, spin.Imag(less), spin.Imag(a)-spin.Imag(b))
			}
		}
	}
}

// P9.3: the real part goes to the imaginary one with its sign turned. (Of size 1 there is no quarter of a turn: one turn is half a circle.)
func TestQuarterOfATurn(t *testing.T) {
	for _, size := range mayBe[1:] {
		for _, v := range spins(size) {
			q := spin.Turn(v, size/2)
			wantNumber(t, "Real of a quarter on", v, spin.Real(q), spin.Imag(v))
			wantNumber(t, "Imag of a quarter on", v, spin.Imag(q), -spin.Real(v))
			q = spin.Turn(v, -size/2)
			wantNumber(t, "Imag of a quarter back", v, spin.Imag(q), spin.Real(v))
			wantNumber(t, "Real of a quarter back", v, spin.Real(q), -spin.Imag(v))
		}
	}
}

// R3: what is handed in stays as it is, behind its end too.
func TestRowsStayAsTheyWere(t *testing.T) {
	for _, size := range anySize {
		for _, v := range spins(size) {
			room := append(slices.Clone(v), 1, 2, 3)
			was := slices.Clone(room)
			given := room[:size]
			vs := [][]int{given, given, given}
			for _, k := range []int{0, 1, -1, size, 2 * size} {
				spin.Turn(given, k)
			}
			spin.Add(vs...)
			spin.Add(vs[:1]...)
			spin.Less(given, given)
			spin.Real(given)
			spin.Imag(given)
			wantRow(t, "a row that was handed in", room, was)
			for _, row := range vs {
				wantRow(t, "one of rows that were handed in", row, v)
			}
		}
	}
}

// R3: what is told is the caller's own: it shares nothing with what was handed in, nor with what was told ahead of it.
func TestWhatIsToldIsTheCallersOwn(t *testing.T) {
	for _, size := range anySize {
		v := make([]int, size, size+4)
		for j := range v {
			v[j] = j + 1
		}
		was, zero := slices.Clone(v), make([]int, size)
		for _, call := range []func() []int{
			func() []int { return spin.Turn(v, 0) },
			func() []int { return spin.Turn(v, 2*size) },
			func() []int { return spin.Turn(v, 1) },
			func() []int { return spin.Add(v) },
			func() []int { return spin.Add(v, zero) },
			func() []int { return spin.Add(zero, v) },
			func() []int { return spin.Less(v, zero) },
			func() []int { return spin.Less(zero, v) },
		} {
			first := call()
			told := slices.Clone(first)
			second := call()
			for j := range first {
				first[j] = 77
			}
			_ = append(first, 78, 79)
			wantRow(t, "a row that was told", second, told)
			wantRow(t, "a row that was handed in", v, was)
			wantRow(t, "a row of zeros that was handed in", zero, make([]int, size))
			for j := range v {
				v[j] = -9
			}
			wantRow(t, "a row that was told, once what was handed in is another", second, told)
			copy(v, was)
		}
	}
}
