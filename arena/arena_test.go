package arena_test

import (
	"math"
	"math/big"
	"slices"
	"testing"

	"earshot/api"
	"earshot/arena"
)

const (
	leastWord    = -1 << 31
	greatestWord = 1<<31 - 1
)

// noWords lie beyond either end of a word.
var noWords = []int{leastWord - 1, greatestWord + 1, -1 << 32, 1 << 32, 1<<32 + 5, -1<<40 + 7, math.MinInt, math.MaxInt}

// words lie at the ends of what a word may be, and between.
var words = []int{leastWord, leastWord + 1, -65537, -2, -1, 0, 1, 5, 65536, greatestWord - 1, greatestWord}

// outside are places that a row of n words does not have.
func outside(n int) []int {
	return []int{-1, -2, -n, -n - 1, n, n + 1, 2*n + 3, 4095 + n, 1 << 32, -1 << 32, math.MinInt, math.MinInt + 1, math.MaxInt, math.MaxInt - 1}
}

// chance tells numbers that look as if by chance, the same ones of each seed.
func chance(seed int) func(n int) int {
	x := uint64(seed)*2 + 1
	return func(n int) int {
		x = x*6364136223846793005 + 1442695040888963407
		return int(x>>33) % n
	}
}

// counted is an arena of n words, none of which is as another one.
func counted(t *testing.T, n int) *arena.Arena {
	t.Helper()
	a := arena.New(n)
	for i := range n {
		a.Put(i, 1000+i)
	}
	wantErr(t, "Err", a.Err(), api.OK)
	return a
}

func wantErr(t *testing.T, what string, got, want api.Errno) {
	t.Helper()
	if got != want {
		t.Errorf("%s: %d, want %d", what, int(got), int(want))
	}
}

func wantWords(t *testing.T, a *arena.Arena, want []int) {
	t.Helper()
	if got := a.Words(); !slices.Equal(got, want) {
		t.Errorf("Words: %v, want %v", got, want)
	}
	if a.Len() != len(want) {
		t.Errorf("Len: %d, want %d", a.Len(), len(want))
	}
	trouble := a.Err()
	for i, x := range want {
		if got := a.Get(i); got != x {
			t.Errorf("Get(%d): %d, want %d", i, got, x)
		}
	}
	wantErr(t, "Err behind Get", a.Err(), trouble)
}

func wantPart(t *testing.T, p *arena.Part, want []int) {
	t.Helper()
	if p == nil {
		t.Fatalf("Part: nil, want %v", want)
	}
	if p.Len() != len(want) {
		t.Errorf("Len of a part: %d, want %d", p.Len(), len(want))
	}
	for i, x := range want {
		if got := p.Get(i); got != x {
			t.Errorf("Get(%d) of a part: %d, want %d", i, got, x)
		}
	}
}

// laid is what Layout tells, in numbers of any length, step by step.
func laid(sizes []int) ([]int, int, api.Errno) {
	four, end := big.NewInt(4), big.NewInt(0)
	up := func() {
		for new(big.Int).Mod(end, four).Sign() != 0 {
			end.Add(end, big.NewInt(1))
		}
	}
	var places []*big.Int
	for _, size := range sizes {
		up()
		places = append(places, new(big.Int).Set(end))
		end.Add(end, big.NewInt(int64(size)))
	}
	up()
	if slices.ContainsFunc(sizes, func(size int) bool { return size < 0 }) {
		return nil, 0, api.ErrArg
	}
	if end.Cmp(big.NewInt(4096)) > 0 {
		return nil, 0, api.ErrRoom
	}
	var row []int
	for _, p := range places {
		row = append(row, int(p.Int64()))
	}
	return row, int(end.Int64()), api.OK
}

func wantLaid(t *testing.T, sizes, places []int, all int, err api.Errno) {
	t.Helper()
	gotPlaces, gotAll, gotErr := arena.Layout(sizes...)
	if !slices.Equal(gotPlaces, places) || gotAll != all || gotErr != err {
		t.Errorf("Layout(%v): %v, %d, %d, want %v, %d, %d", sizes, gotPlaces, gotAll, int(gotErr), places, all, int(err))
	}
}

// P7.1
func TestLayoutWrittenOut(t *testing.T) {
	for _, c := range []struct {
		sizes, places []int
		all           int
		err           api.Errno
	}{
		{nil, nil, 0, api.OK}, {[]int{}, nil, 0, api.OK},
		{[]int{3, 5, 1}, []int{0, 4, 12}, 16, api.OK},
		{[]int{0}, []int{0}, 0, api.OK}, {[]int{0, 0, 0}, []int{0, 0, 0}, 0, api.OK},
		{[]int{1}, []int{0}, 4, api.OK}, {[]int{3}, []int{0}, 4, api.OK}, {[]int{4}, []int{0}, 4, api.OK}, {[]int{5}, []int{0}, 8, api.OK},
		{[]int{4, 4, 4}, []int{0, 4, 8}, 12, api.OK}, {[]int{0, 1, 0, 4, 0}, []int{0, 0, 4, 4, 8}, 8, api.OK},
		{[]int{4096}, []int{0}, 4096, api.OK}, {[]int{4093}, []int{0}, 4096, api.OK}, {[]int{4092}, []int{0}, 4092, api.OK},
		{[]int{4096, 0}, []int{0, 4096}, 4096, api.OK}, {[]int{4093, 0, 0}, []int{0, 4096, 4096}, 4096, api.OK},
		{[]int{4092, 4}, []int{0, 4092}, 4096, api.OK}, {[]int{4089, 1}, []int{0, 4092}, 4096, api.OK}, {[]int{1, 4092}, []int{0, 4}, 4096, api.OK},
		{[]int{4097}, nil, 0, api.ErrRoom}, {[]int{4093, 1}, nil, 0, api.ErrRoom}, {[]int{1, 4093}, nil, 0, api.ErrRoom}, {[]int{4096, 0, 1}, nil, 0, api.ErrRoom},
		{[]int{4092, 5}, nil, 0, api.ErrRoom}, {[]int{2048, 2048, 1}, nil, 0, api.ErrRoom}, {[]int{0, 4097, 0}, nil, 0, api.ErrRoom},
		{[]int{-1}, nil, 0, api.ErrArg}, {[]int{math.MinInt}, nil, 0, api.ErrArg}, {[]int{-3, 3}, nil, 0, api.ErrArg}, {[]int{4, 0, -4}, nil, 0, api.ErrArg},
		{[]int{5000, -1}, nil, 0, api.ErrArg}, {[]int{-1, 5000}, nil, 0, api.ErrArg}, {[]int{math.MaxInt, 4, math.MinInt}, nil, 0, api.ErrArg},
	} {
		wantLaid(t, c.sizes, c.places, c.all, c.err)
	}
}

// P7.1: sums that would not fit into 64 bits, and such as would come back to little there.
func TestLayoutOfGreatSizes(t *testing.T) {
	for _, sizes := range [][]int{
		{math.MaxInt}, {math.MaxInt - 1}, {math.MaxInt - 2}, {math.MaxInt - 3}, {1, math.MaxInt}, {4, math.MaxInt - 3}, {4092, math.MaxInt}, {4096, math.MaxInt},
		{math.MaxInt, math.MaxInt}, {math.MaxInt, math.MaxInt, 2}, {math.MaxInt - 3, math.MaxInt - 3, 8},
		{1 << 62, 1 << 62}, {1 << 62, 1 << 62, 1 << 62, 1 << 62}, {1 << 32}, {1 << 32, 4}, {1<<32 + 4}, {0, 0, math.MaxInt},
	} {
		wantLaid(t, sizes, nil, 0, api.ErrRoom)
		places, all, err := laid(sizes)
		wantLaid(t, sizes, places, all, err)
	}
}

// P7.1
func TestLayoutOfManySizes(t *testing.T) {
	fours := make([]int, 1025)
	for i := range fours {
		fours[i] = 4 * i
	}
	wantLaid(t, slices.Repeat([]int{1}, 1024), fours[:1024], 4096, api.OK)
	wantLaid(t, slices.Repeat([]int{4}, 1024), fours[:1024], 4096, api.OK)
	wantLaid(t, slices.Repeat([]int{1}, 1025), nil, 0, api.ErrRoom)
	wantLaid(t, make([]int, 1<<17), make([]int, 1<<17), 0, api.OK)
	wantLaid(t, append(slices.Repeat([]int{9}, 1<<17), -1), nil, 0, api.ErrArg)
}

// P7.1
func TestLayoutByChance(t *testing.T) {
	next := chance(1)
	for range 3000 {
		sizes := make([]int, next(9))
		for i := range sizes {
			sizes[i] = next([]int{3, 9, 700, 1400}[next(4)])
			if next(60) == 0 {
				sizes[i] = -sizes[i]
			}
		}
		places, all, err := laid(sizes)
		wantLaid(t, sizes, places, all, err)
	}
	for size := range 4200 {
		for _, sizes := range [][]int{{size}, {size, 2}, {2, size}, {1000, size, 0}} {
			places, all, err := laid(sizes)
			wantLaid(t, sizes, places, all, err)
		}
	}
}

// P7.1, R3
func TestLayoutLeavesItsSizes(t *testing.T) {
	sizes := []int{3, 5, 1, 9}
	places, _, _ := arena.Layout(sizes[:3]...)
	clear(places)
	_ = append(places, 7)
	if !slices.Equal(sizes, []int{3, 5, 1, 9}) {
		t.Errorf("Layout: its sizes are %v", sizes)
	}
	wantLaid(t, sizes[:3], []int{0, 4, 12}, 16, api.OK)
}

// P7.2
func TestNew(t *testing.T) {
	for _, n := range []int{0, 1, 2, 3, 4, 5, 1000, 4095, 4096} {
		a := arena.New(n)
		if a == nil {
			t.Fatalf("New(%d): nil", n)
		}
		wantErr(t, "Err of a new one", a.Err(), api.OK)
		wantWords(t, a, make([]int, n))
	}
	for _, n := range []int{-1, -2, -4096, math.MinInt, 4097, 4098, 5000, 1 << 32, 1<<32 + 1, math.MaxInt} {
		if arena.New(n) != nil {
			t.Errorf("New(%d): not nil", n)
		}
	}
	if api.MaxWords != 4096 {
		t.Errorf("MaxWords: %d", api.MaxWords)
	}
}

// P7.2
func TestSet(t *testing.T) {
	a := arena.New(len(words))
	wantErr(t, "Set", a.Set(words...), api.OK)
	wantWords(t, a, words)
	back := slices.Clone(words)
	slices.Reverse(back)
	wantErr(t, "Set", a.Set(back...), api.OK)
	wantWords(t, a, back)
	wantErr(t, "Set of none, of none", arena.New(0).Set(), api.OK)
	most := make([]int, 4096)
	for i := range most {
		most[i] = leastWord + i
	}
	b := arena.New(4096)
	wantErr(t, "Set of all", b.Set(most...), api.OK)
	wantWords(t, b, most)
}

// P7.2, P7.3: with an error nothing is done, not even the words ahead of it, and it is no trouble.
func TestSetThatIsWrong(t *testing.T) {
	a := counted(t, 6)
	kept := a.Words()
	refuse := func(err api.Errno, row ...int) {
		t.Helper()
		wantErr(t, "Set", a.Set(row...), err)
		wantWords(t, a, kept)
		wantErr(t, "Err behind Set", a.Err(), api.OK)
	}
	for n := range 20 {
		if n != 6 {
			refuse(api.ErrSize, make([]int, n)...)
			refuse(api.ErrSize, slices.Repeat([]int{1 << 31}, n)...)
		}
	}
	refuse(api.ErrSize)
	refuse(api.ErrSize, make([]int, 4097)...)
	refuse(api.ErrSize, make([]int, 1<<17)...)
	for _, x := range noWords {
		for i := range 6 {
			row := []int{1, 2, 3, 4, 5, 6}
			row[i] = x
			refuse(api.ErrRange, row...)
		}
	}
	wantErr(t, "Set of one to none", arena.New(0).Set(1), api.ErrSize)
	wantErr(t, "Set, then", a.Set(1, 2, 3, 4, 5, 6), api.OK)
	wantWords(t, a, []int{1, 2, 3, 4, 5, 6})
}

// P7.2, R3: a row that is handed in, or told, has nothing in common with the arena.
func TestRowsAreTheCallers(t *testing.T) {
	row := []int{1, 2, 3, 4}
	a := arena.New(3)
	a.Set(row[:3]...)
	row[0] = 9
	wantWords(t, a, []int{1, 2, 3})
	told, other := a.Words(), a.Words()
	told[1] = 8
	_ = append(told[:1], 7, 7)
	wantWords(t, a, []int{1, 2, 3})
	if !slices.Equal(other, []int{1, 2, 3}) {
		t.Errorf("Words: another row is %v", other)
	}
	a.Put(0, 5)
	a.Zero()
	if !slices.Equal(other, []int{1, 2, 3}) || !slices.Equal(row, []int{9, 2, 3, 4}) {
		t.Errorf("rows of the caller: %v, %v", other, row)
	}
}

// P7.2
func TestZero(t *testing.T) {
	for _, n := range []int{0, 1, 7, 4096} {
		a := counted(t, n)
		a.Zero()
		wantWords(t, a, make([]int, n))
		wantErr(t, "Err", a.Err(), api.OK)
	}
}

// P7.3
func TestPutAndGet(t *testing.T) {
	for _, n := range []int{1, 2, 5, 4096} {
		for _, i := range []int{0, n / 2, n - 1} {
			for _, x := range words {
				a := counted(t, n)
				want := a.Words()
				want[i] = x
				a.Put(i, x)
				if got := a.Get(i); got != x {
					t.Errorf("Get(%d) behind Put of %d: %d", i, x, got)
				}
				if n < 10 {
					wantWords(t, a, want)
				} else if !slices.Equal(a.Words(), want) {
					t.Errorf("Put(%d, %d): another word was changed", i, x)
				}
				wantErr(t, "Err", a.Err(), api.OK)
			}
		}
	}
}

// P7.3
func TestPlacesThatAreNot(t *testing.T) {
	for _, n := range []int{0, 1, 4, 5} {
		for _, i := range outside(n) {
			if i >= 0 && i < n {
				continue
			}
			a := counted(t, n)
			kept := a.Words()
			if got := a.Get(i); got != 0 {
				t.Errorf("Get(%d) of %d: %d", i, n, got)
			}
			wantErr(t, "Err behind Get", a.Err(), api.ErrArg)
			wantWords(t, a, kept)
			for _, x := range []int{7, 1 << 31, math.MinInt} {
				b := counted(t, n)
				b.Put(i, x)
				wantErr(t, "Err behind Put", b.Err(), api.ErrArg)
				wantWords(t, b, kept)
			}
		}
	}
}

// P7.3
func TestPutOfNoWords(t *testing.T) {
	for _, x := range noWords {
		for i := range 4 {
			a := counted(t, 4)
			kept := a.Words()
			a.Put(i, x)
			wantErr(t, "Err behind Put", a.Err(), api.ErrRange)
			wantWords(t, a, kept)
		}
	}
}

// P7.3: the first trouble stays, whatever is done behind it, and all goes on.
func TestTroubleStays(t *testing.T) {
	wrong := map[api.Errno][]func(*arena.Arena){
		api.ErrArg: {
			func(a *arena.Arena) { a.Get(-1) }, func(a *arena.Arena) { a.Get(6) },
			func(a *arena.Arena) { a.Put(6, 1) }, func(a *arena.Arena) { a.Put(-1, 1<<31) },
			func(a *arena.Arena) { a.Part(1, 2).Get(2) }, func(a *arena.Arena) { a.Part(1, 2).Put(-1, 1) },
		},
		api.ErrRange: {
			func(a *arena.Arena) { a.Put(0, 1<<31) }, func(a *arena.Arena) { a.Put(5, -1<<31-1) },
			func(a *arena.Arena) { a.Part(1, 2).Put(1, 1<<31) },
		},
	}
	for first, calls := range wrong {
		for _, call := range calls {
			a := counted(t, 6)
			call(a)
			wantErr(t, "Err, first", a.Err(), first)
			for _, others := range wrong {
				for _, other := range others {
					other(a)
					wantErr(t, "Err, then", a.Err(), first)
				}
			}
			wantErr(t, "Set behind trouble", a.Set(1, 2), api.ErrSize)
			wantErr(t, "Set behind trouble", a.Set(1, 2, 3, 4, 5, 6), api.OK)
			a.Put(2, 30)
			wantWords(t, a, []int{1, 2, 30, 4, 5, 6})
			wantPart(t, a.Part(1, 3), []int{2, 30, 4})
			a.Zero()
			wantWords(t, a, make([]int, 6))
			wantErr(t, "Err, in the end", a.Err(), first)
		}
	}
}

// P7.3, R4
func TestTroubleIsOfOneArena(t *testing.T) {
	a, b := arena.New(3), arena.New(3)
	a.Get(3)
	a.Put(1, 4)
	b.Put(0, 1<<31)
	wantErr(t, "Err of one", a.Err(), api.ErrArg)
	wantErr(t, "Err of the other", b.Err(), api.ErrRange)
	wantErr(t, "Err of a third", arena.New(3).Err(), api.OK)
	wantWords(t, b, []int{0, 0, 0})
}

// P7.4
func TestParts(t *testing.T) {
	for _, n := range []int{0, 1, 2, 7} {
		a := counted(t, n)
		for at := -2; at <= n+2; at++ {
			for size := -2; size <= n+2; size++ {
				p := a.Part(at, size)
				if at < 0 || size < 0 || at+size > n {
					if p != nil {
						t.Errorf("Part(%d, %d) of %d: not nil", at, size, n)
					}
					continue
				}
				wantPart(t, p, a.Words()[at:at+size])
			}
		}
		wantErr(t, "Err behind Part", a.Err(), api.OK)
	}
}

// P7.4: places and sizes that together would not fit into 64 bits, and such as would come back to little there.
func TestPartsOfGreatNumbers(t *testing.T) {
	great := []int{math.MaxInt, math.MaxInt - 1, 1 << 62, 1<<62 + 1, 1 << 32, 4096, 4097}
	small := []int{math.MinInt, math.MinInt + 1, -1 << 62, -1 << 32, -1}
	a := counted(t, 6)
	for _, x := range great {
		for _, y := range slices.Concat(great, small, []int{0, 1, 6}) {
			if a.Part(x, y) != nil || a.Part(y, x) != nil {
				t.Errorf("Part of %d and %d: not nil", x, y)
			}
		}
	}
	for _, x := range small {
		for _, y := range slices.Concat(small, []int{0, 1, 6}) {
			if a.Part(x, y) != nil || a.Part(y, x) != nil {
				t.Errorf("Part of %d and %d: not nil", x, y)
			}
		}
	}
	wantErr(t, "Err behind Part", a.Err(), api.OK)
}

// P7.4: of places that the part has not, whatever the arena has there.
func TestPlacesBesideParts(t *testing.T) {
	for _, c := range []struct{ at, n int }{{2, 3}, {0, 3}, {5, 3}, {0, 8}, {3, 0}, {8, 0}, {0, 0}, {7, 1}} {
		for _, i := range append(outside(c.n), -c.at, 8-c.at, 7-c.at) {
			if i >= 0 && i < c.n {
				continue
			}
			a := counted(t, 8)
			kept := a.Words()
			if got := a.Part(c.at, c.n).Get(i); got != 0 {
				t.Errorf("Get(%d) of Part(%d, %d): %d", i, c.at, c.n, got)
			}
			wantErr(t, "Err behind a part's Get", a.Err(), api.ErrArg)
			wantWords(t, a, kept)
			for _, x := range []int{7, 1 << 31} {
				b := counted(t, 8)
				b.Part(c.at, c.n).Put(i, x)
				wantErr(t, "Err behind a part's Put", b.Err(), api.ErrArg)
				wantWords(t, b, kept)
			}
		}
	}
}

// P7.4
func TestPutOfParts(t *testing.T) {
	for i := range 3 {
		for _, x := range words {
			a := counted(t, 8)
			want := a.Words()
			want[4+i] = x
			p := a.Part(4, 3)
			p.Put(i, x)
			wantWords(t, a, want)
			wantPart(t, p, want[4:7])
			wantErr(t, "Err", p.Err(), api.OK)
		}
		for _, x := range noWords {
			a := counted(t, 8)
			kept := a.Words()
			p := a.Part(4, 3)
			p.Put(i, x)
			wantWords(t, a, kept)
			wantErr(t, "Err", p.Err(), api.ErrRange)
		}
	}
}

// P7.4: what is done to the arena is seen by parts that were there ahead of it.
func TestPartsSeeTheirArena(t *testing.T) {
	a := arena.New(6)
	p, q, all := a.Part(2, 3), a.Part(4, 2), a.Part(0, 6)
	a.Put(4, 9)
	wantPart(t, p, []int{0, 0, 9})
	wantPart(t, q, []int{9, 0})
	wantErr(t, "Set", a.Set(1, 2, 3, 4, 5, 6), api.OK)
	wantPart(t, p, []int{3, 4, 5})
	wantPart(t, q, []int{5, 6})
	q.Put(0, -7)
	wantPart(t, p, []int{3, 4, -7})
	wantWords(t, a, []int{1, 2, 3, 4, -7, 6})
	wantErr(t, "Set", a.Set(1, 2, 3, 4, 5, 1<<31), api.ErrRange)
	wantPart(t, all, []int{1, 2, 3, 4, -7, 6})
	a.Zero()
	wantPart(t, all, make([]int, 6))
}

// P7.4
func TestTroubleOfParts(t *testing.T) {
	a, other := arena.New(6), arena.New(6)
	p, q, r := a.Part(0, 2), a.Part(3, 3), other.Part(0, 2)
	for _, part := range []*arena.Part{p, q, r} {
		wantErr(t, "Err, first", part.Err(), api.OK)
	}
	p.Put(1, 1<<31)
	q.Get(3)
	wantErr(t, "Err of the arena", a.Err(), api.ErrRange)
	wantErr(t, "Err of the part", p.Err(), api.ErrRange)
	wantErr(t, "Err of another part", q.Err(), api.ErrRange)
	wantErr(t, "Err of a later part", a.Part(6, 0).Err(), api.ErrRange)
	wantErr(t, "Err of another arena's part", r.Err(), api.OK)
	other.Get(6)
	wantErr(t, "Err that the arena had", r.Err(), api.ErrArg)
}

// P7.5
func TestPartsThatAreLaidOut(t *testing.T) {
	next := chance(5)
	rows := [][]int{{3, 5, 1}, {0, 0}, {4, 0, 4}, {1, 1, 1, 1}, {4093}, {4096, 0}, slices.Repeat([]int{1}, 1024)}
	for range 60 {
		sizes := make([]int, 1+next(12))
		for i := range sizes {
			sizes[i] = next(30)
		}
		rows = append(rows, sizes)
	}
	for _, sizes := range rows {
		wantApart(t, sizes)
	}
}

// wantApart: what is put in one part is told by it, and each other one tells what was put in it.
func wantApart(t *testing.T, sizes []int) {
	t.Helper()
	places, all, err := arena.Layout(sizes...)
	a := arena.New(all)
	if err != api.OK || a == nil || len(places) != len(sizes) {
		t.Fatalf("Layout(%v): %v, %d, %d", sizes, places, all, int(err))
	}
	parts := make([]*arena.Part, len(sizes))
	want := make([][]int, len(sizes))
	for i, size := range sizes {
		parts[i] = a.Part(places[i], size)
		want[i] = make([]int, size)
	}
	for i, size := range sizes {
		for k := range size {
			want[i][k] = 10000*i + k + 1
			parts[i].Put(k, want[i][k])
		}
		if len(sizes) < 20 {
			for j, p := range parts {
				wantPart(t, p, want[j])
			}
		}
	}
	for j, p := range parts {
		wantPart(t, p, want[j])
	}
	wantErr(t, "Err", a.Err(), api.OK)
}

// P7.2 to P7.4: long scripts, held against a plain row, and a first error.
func TestScripts(t *testing.T) {
	for seed := range 40 {
		next := chance(seed)
		n := 1 + next(12)
		a := arena.New(n)
		row, trouble := make([]int, n), api.OK
		fail := func(err api.Errno) {
			if trouble == api.OK {
				trouble = err
			}
		}
		numbers := slices.Concat(words, words, words, words, noWords)
		if seed%2 == 0 {
			numbers = words
		}
		for range 300 {
			at := next(n + 1)
			size := next(n - at + 1)
			p := a.Part(at, size)
			i, x := next(size+2)-1, numbers[next(len(numbers))]
			if seed%4 == 0 {
				i = min(max(i, 0), size-1)
			}
			there := i >= 0 && i < size
			switch kind := next(10); {
			case kind < 4:
				p.Put(i, x)
				if !there {
					fail(api.ErrArg)
				} else if slices.Contains(noWords, x) {
					fail(api.ErrRange)
				} else {
					row[at+i] = x
				}
			case kind < 8:
				want := 0
				if there {
					want = row[at+i]
				} else {
					fail(api.ErrArg)
				}
				if got := p.Get(i); got != want {
					t.Errorf("Get(%d) of Part(%d, %d): %d, want %d", i, at, size, got, want)
				}
			case kind < 9:
				to := slices.Repeat([]int{x}, n)
				if a.Set(to...) == api.OK {
					row = to
				}
			case next(3) == 0:
				a.Zero()
				row = make([]int, n)
			}
			wantWords(t, a, row)
			wantErr(t, "Err", p.Err(), trouble)
		}
	}
}

// The sentence behind P7.5.
func TestNilArena(t *testing.T) {
	var a *arena.Arena
	for _, i := range append(outside(4), 0, 1) {
		if a.Get(i) != 0 {
			t.Errorf("Get(%d) of a nil arena: not 0", i)
		}
		a.Put(i, 5)
		a.Put(i, 1<<31)
		if a.Part(i, 0) != nil || a.Part(0, i) != nil || a.Part(i, i) != nil {
			t.Errorf("Part of %d of a nil arena: not nil", i)
		}
	}
	a.Zero()
	if a.Len() != 0 || len(a.Words()) != 0 {
		t.Errorf("a nil arena: %d, %v", a.Len(), a.Words())
	}
	wantErr(t, "Set of a nil arena", a.Set(), api.ErrArg)
	wantErr(t, "Set of a nil arena", a.Set(1), api.ErrArg)
	wantErr(t, "Set of a nil arena", a.Set(1<<31), api.ErrArg)
	wantErr(t, "Err of a nil arena", a.Err(), api.ErrArg)
	wantErr(t, "Err of what New made of nothing", arena.New(-1).Err(), api.ErrArg)
}

// The sentence behind P7.5; what a part has of its arena alone is nothing, too.
func TestNilPart(t *testing.T) {
	for _, p := range []*arena.Part{nil, arena.New(4).Part(0, 5), arena.New(-1).Part(0, 0), new(arena.Part)} {
		for _, i := range append(outside(4), 0, 1) {
			if p.Get(i) != 0 {
				t.Errorf("Get(%d) of a nil part: not 0", i)
			}
			p.Put(i, 5)
			p.Put(i, 1<<31)
			if p.Part(i, 0) != nil || p.Part(0, i) != nil {
				t.Errorf("Part of %d of a nil part: not nil", i)
			}
		}
		p.Zero()
		if p.Len() != 0 || len(p.Words()) != 0 {
			t.Errorf("a nil part: %d, %v", p.Len(), p.Words())
		}
		wantErr(t, "Err of a nil part", p.Err(), api.ErrArg)
		wantErr(t, "Set of a nil part", p.Set(), api.ErrArg)
		wantErr(t, "Set of a nil part", p.Set(1), api.ErrArg)
	}
}

// Ways: a part's other methods are its arena's.
func TestWhatPartsHaveOfTheirArena(t *testing.T) {
	a := counted(t, 4)
	p := a.Part(1, 2)
	if got := p.Words(); !slices.Equal(got, []int{1000, 1001, 1002, 1003}) {
		t.Errorf("Words: %v", got)
	}
	wantPart(t, p.Part(2, 2), []int{1002, 1003})
	wantErr(t, "Set of two", p.Set(1, 2), api.ErrSize)
	wantErr(t, "Set of four", p.Set(1, 2, 3, 4), api.OK)
	wantWords(t, a, []int{1, 2, 3, 4})
	wantPart(t, p, []int{2, 3})
	p.Zero()
	wantWords(t, a, make([]int, 4))
}

// P1: an arena that was not made by New is one of no words.
func TestZeroArena(t *testing.T) {
	var a arena.Arena
	wantWords(t, &a, nil)
	wantErr(t, "Err", a.Err(), api.OK)
	wantErr(t, "Set", a.Set(), api.OK)
	wantErr(t, "Set of one", a.Set(1), api.ErrSize)
	wantPart(t, a.Part(0, 0), nil)
	a.Zero()
	a.Put(0, 1)
	wantErr(t, "Err behind Put", a.Err(), api.ErrArg)
}
