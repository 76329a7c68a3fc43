package loop_test

import (
	"math"
	"math/big"
	"slices"
	"testing"

	"earshot/api"
	"earshot/arena"
	"earshot/loop"
)

const (
	leastWord    = -1 << 31
	greatestWord = 1<<31 - 1
)

// noWords lie beyond either end of a word.
var noWords = []int{leastWord - 1, greatestWord + 1, -1 << 32, 1 << 32, 1<<32 + 5, -1<<40 + 7, math.MinInt, math.MaxInt}

// words lie at the ends of what a word may be, and between.
var words = []int{leastWord, leastWord + 1, -65537, -2, -1, 0, 1, 5, 65536, greatestWord - 1, greatestWord}

// nowhere are numbers that no frame has, or that lie far beyond any that is pushed here.
var nowhere = []int{-1, -2, -3, -1000, -1 << 32, math.MinInt, math.MinInt + 1, 1 << 32, 1 << 62, math.MaxInt - 1, math.MaxInt}

// chance tells numbers that look as if by chance, the same ones of each seed.
func chance(seed int) func(n int) int {
	x := uint64(seed)*2 + 1
	return func(n int) int {
		x = x*6364136223846793005 + 1442695040888963407
		return int(x>>33) % n
	}
}

// model is a part of an arena, and a loop in it, with all that is known of them, in plain rows.
type model struct {
	a         *arena.Arena
	p         *arena.Part
	l         *loop.Loop
	at, width int
	room      int
	count     int
	row       []int
}

// made is a loop of frames of width words in size words of an arena, with words ahead of the part and behind it, none of which is as another one.
func made(t *testing.T, at, size, width int) *model {
	t.Helper()
	m := &model{a: arena.New(at + size + 3), at: at, width: width, room: size / width}
	for i := range m.a.Len() {
		m.row = append(m.row, 1000+i)
	}
	wantErr(t, "Set", m.a.Set(m.row...), api.OK)
	m.p = m.a.Part(at, size)
	m.l = loop.New(m.p, width)
	if m.l == nil {
		t.Fatalf("New of %d words, frames of %d: nil", size, width)
	}
	return m
}

// place is where a frame's words begin in the arena, in numbers of any length.
func (m *model) place(number int) int {
	left := new(big.Int).Mod(big.NewInt(int64(number)), big.NewInt(int64(m.room)))
	return m.at + int(left.Int64())*m.width
}

func (m *model) oldest() int { return max(m.count-m.room, 0) }

// push is a frame that is right.
func (m *model) push(t *testing.T, frame ...int) {
	t.Helper()
	wantErr(t, "Push", m.l.Push(frame...), api.OK)
	copy(m.row[m.place(m.count):], frame)
	m.count++
}

func (m *model) seek(t *testing.T, n int) {
	t.Helper()
	if !m.l.Seek(n) {
		t.Errorf("Seek(%d): false", n)
	}
	m.count = n
}

// want: all that the loop, the part and the arena tell is what is known.
func (m *model) want(t *testing.T) {
	t.Helper()
	got := []int{m.l.Width(), m.l.Room(), m.l.Count(), m.l.Oldest()}
	if want := []int{m.width, m.room, m.count, m.oldest()}; !slices.Equal(got, want) {
		t.Errorf("Width, Room, Count, Oldest: %v, want %v", got, want)
	}
	if got := m.a.Words(); !slices.Equal(got, m.row) {
		t.Errorf("Words: %v, want %v", got, m.row)
	}
	for i := range m.p.Len() {
		if got := m.p.Get(i); got != m.row[m.at+i] {
			t.Errorf("the part's word %d: %d, want %d", i, got, m.row[m.at+i])
		}
	}
	for t1 := m.oldest(); t1 < m.count; t1++ {
		wantFrame(t, m.l, t1, m.row[m.place(t1):m.place(t1)+m.width])
	}
	wantNone(t, m.l, m.oldest()-1, m.oldest()-m.room, m.count, m.oldest()-m.room-1)
	if m.count < math.MaxInt-m.room {
		wantNone(t, m.l, m.count+1, m.count+m.room)
	}
	wantErr(t, "the arena's trouble", m.a.Err(), api.OK)
}

func wantErr(t *testing.T, what string, got, want api.Errno) {
	t.Helper()
	if got != want {
		t.Errorf("%s: %d, want %d", what, int(got), int(want))
	}
}

func wantFrame(t *testing.T, l *loop.Loop, number int, want []int) {
	t.Helper()
	if got, ok := l.Get(number); !ok || !slices.Equal(got, want) {
		t.Errorf("Get(%d): %v, %t, want %v", number, got, ok, want)
	}
}

func wantNone(t *testing.T, l *loop.Loop, numbers ...int) {
	t.Helper()
	for _, n := range numbers {
		if got, ok := l.Get(n); ok || len(got) != 0 {
			t.Errorf("Get(%d): %v, %t, want nothing, false", n, got, ok)
		}
	}
}

// frame is one whose numbers tell which it is.
func frame(number, width int) []int {
	row := make([]int, width)
	for i := range row {
		row[i] = 100*(number+1) + i
	}
	return row
}

// P8.1
func TestMade(t *testing.T) {
	for _, c := range []struct{ size, width, room int }{
		{1, 1, 1}, {7, 1, 7}, {7, 2, 3}, {7, 3, 2}, {7, 4, 1}, {7, 6, 1}, {7, 7, 1}, {8, 2, 4}, {9, 3, 3}, {11, 4, 2},
		{4096, 1, 4096}, {4096, 16, 256}, {4096, 4095, 1}, {4096, 4096, 1}, {4095, 2, 2047},
	} {
		a := arena.New(c.size)
		l := loop.New(a.Part(0, c.size), c.width)
		if l == nil {
			t.Errorf("New of %d words, frames of %d: nil", c.size, c.width)
			continue
		}
		if l.Width() != c.width || l.Room() != c.room || l.Count() != 0 || l.Oldest() != 0 {
			t.Errorf("New of %d words, frames of %d: %d, %d, %d, %d", c.size, c.width, l.Width(), l.Room(), l.Count(), l.Oldest())
		}
		wantNone(t, l, -1, 0, 1, c.room-1, c.room)
		wantErr(t, "the arena's trouble", a.Err(), api.OK)
	}
}

// P8.1: making a loop changes no word of its part.
func TestMadeKeepsWords(t *testing.T) {
	made(t, 2, 7, 2).want(t)
}

// P8.1: the part's Len counts, not the arena's, nor what lies behind the part.
func TestMadeOfTooLittle(t *testing.T) {
	a := arena.New(40)
	for _, size := range []int{0, 1, 2, 7} {
		p := a.Part(3, size)
		for _, width := range []int{0, -1, -2, -size, -1 << 32, math.MinInt, math.MinInt + 1, size + 1, size + 2, 2*size + 1, 40, 41, 1 << 32, 1 << 62, math.MaxInt - 1, math.MaxInt} {
			if width == size && size > 0 {
				continue
			}
			if loop.New(p, width) != nil {
				t.Errorf("New of %d words, frames of %d: not nil", size, width)
			}
		}
	}
	wantErr(t, "the arena's trouble", a.Err(), api.OK)
}

// P8.1
func TestMadeOfNothing(t *testing.T) {
	for _, p := range []*arena.Part{nil, arena.New(4).Part(2, 3), arena.New(-1).Part(0, 0), new(arena.Part)} {
		for _, width := range []int{-1, 0, 1, 2, math.MinInt, math.MaxInt} {
			if loop.New(p, width) != nil {
				t.Errorf("New of a nil part, frames of %d: not nil", width)
			}
		}
	}
}

// The chapter's example, and where the words lie.
func TestExample(t *testing.T) {
	a := arena.New(9)
	wantErr(t, "Set", a.Set(9, 9, 9, 9, 9, 9, 9, 9, 9), api.OK)
	l := loop.New(a.Part(1, 7), 2)
	for i := range 4 {
		wantErr(t, "Push", l.Push(i, 10*i), api.OK)
	}
	if l.Room() != 3 || l.Oldest() != 1 || l.Count() != 4 {
		t.Errorf("Room, Oldest, Count: %d, %d, %d", l.Room(), l.Oldest(), l.Count())
	}
	if got, want := a.Words(), []int{9, 3, 30, 1, 10, 2, 20, 9, 9}; !slices.Equal(got, want) {
		t.Errorf("Words: %v, want %v", got, want)
	}
	wantFrame(t, l, 1, []int{1, 10})
	wantFrame(t, l, 2, []int{2, 20})
	wantFrame(t, l, 3, []int{3, 30})
	wantNone(t, l, 0, 4)
}

// P8.1, P8.2, P8.4: below Room, just Room, and above; words behind the last place, and around the part, stay.
func TestPushed(t *testing.T) {
	for at := range 4 {
		for size := 1; size <= 13; size++ {
			for width := 1; width <= size; width++ {
				m := made(t, at, size, width)
				for number := range 3*m.room + 2 {
					m.want(t)
					m.push(t, frame(number, width)...)
				}
				m.want(t)
				for number := m.oldest(); number < m.count; number++ {
					wantFrame(t, m.l, number, frame(number, width))
				}
				wantNone(t, m.l, nowhere...)
			}
		}
	}
}

// P8.2: a part as long as there may be one.
func TestPushedFar(t *testing.T) {
	a := arena.New(api.MaxWords)
	l := loop.New(a.Part(0, api.MaxWords), 3)
	for number := range 3000 {
		wantErr(t, "Push", l.Push(frame(number, 3)...), api.OK)
	}
	for number := range 3000 {
		if number < 3000-1365 {
			wantNone(t, l, number)
		} else {
			wantFrame(t, l, number, frame(number, 3))
		}
	}
	if a.Get(4095) != 0 {
		t.Errorf("the word behind the last frame's place: %d", a.Get(4095))
	}
}

// P8.2: a frame is of words, up to their ends.
func TestPushedWords(t *testing.T) {
	m := made(t, 1, 5, 2)
	for _, x := range words {
		for _, y := range words {
			m.push(t, x, y)
			wantFrame(t, m.l, m.count-1, []int{x, y})
		}
	}
	m.want(t)
}

// P8.2: ErrWidth, whatever the numbers are; ErrRange, wherever the number is: nothing is done, not even the arena's trouble.
func TestPushedWrong(t *testing.T) {
	for _, before := range []int{0, 1, 2, 3, 4, 7} {
		m := made(t, 2, 10, 3)
		for number := range before {
			m.push(t, frame(number, 3)...)
		}
		wrong := func(want api.Errno, frame ...int) {
			t.Helper()
			wantErr(t, "Push of a wrong frame", m.l.Push(frame...), want)
			m.want(t)
		}
		wrong(api.ErrWidth)
		wrong(api.ErrWidth, []int{}...)
		wrong(api.ErrWidth, 7)
		wrong(api.ErrWidth, 7, 8)
		wrong(api.ErrWidth, 7, 8, 9, 10)
		wrong(api.ErrWidth, 7, 8, 9, 10, 11, 12)
		wrong(api.ErrWidth, make([]int, 5000)...)
		for _, x := range noWords {
			wrong(api.ErrRange, x, 8, 9)
			wrong(api.ErrRange, 7, x, 9)
			wrong(api.ErrRange, 7, 8, x)
			wrong(api.ErrRange, x, x, x)
			wrong(api.ErrWidth, x)
			wrong(api.ErrWidth, x, 8)
			wrong(api.ErrWidth, 7, x)
			wrong(api.ErrWidth, 7, 8, 9, x)
			wrong(api.ErrWidth, x, 8, 9, 10)
		}
		m.push(t, 7, 8, 9)
		m.want(t)
	}
}

// P8.2: Get tells of numbers from Oldest to Count less 1, and of no other.
func TestGetEdges(t *testing.T) {
	m := made(t, 0, 8, 2)
	for number := range 11 {
		m.push(t, frame(number, 2)...)
		for n := -20; n < 30; n++ {
			if m.oldest() <= n && n < m.count {
				wantFrame(t, m.l, n, frame(n, 2))
			} else {
				wantNone(t, m.l, n)
			}
		}
		wantNone(t, m.l, nowhere...)
	}
	m.want(t)
}

// P8.2: what is told is the words that lie there, whoever laid them.
func TestGetTellsWordsThatLieThere(t *testing.T) {
	m := made(t, 1, 6, 2)
	m.push(t, 1, 2)
	m.push(t, 3, 4)
	m.p.Put(3, -5)
	wantFrame(t, m.l, 1, []int{3, -5})
	m.a.Zero()
	wantFrame(t, m.l, 0, []int{0, 0})
	wantFrame(t, m.l, 1, []int{0, 0})
	if m.l.Count() != 2 {
		t.Errorf("Count: %d", m.l.Count())
	}
}

// R3: a row that was told is the caller's, and a frame that was pushed stays the caller's.
func TestRowsAreApart(t *testing.T) {
	m := made(t, 1, 6, 2)
	given := []int{5, 6, 7}
	m.push(t, given[:2]...)
	if !slices.Equal(given, []int{5, 6, 7}) {
		t.Errorf("the frame behind Push: %v", given)
	}
	given[0], given[1] = 50, 60
	m.want(t)
	wantFrame(t, m.l, 0, []int{5, 6})
	first, _ := m.l.Get(0)
	second, _ := m.l.Get(0)
	first[0], first[1] = 70, 80
	_ = append(first, 90)
	m.want(t)
	wantFrame(t, m.l, 0, []int{5, 6})
	for range 3 {
		m.push(t, 1, 2)
	}
	if !slices.Equal(second, []int{5, 6}) {
		t.Errorf("a row that was told, behind other frames: %v", second)
	}
}

// P8.2
func TestOldest(t *testing.T) {
	m := made(t, 0, 9, 2)
	for _, want := range []int{0, 0, 0, 0, 0, 1, 2, 3, 4, 5} {
		if m.l.Oldest() != want {
			t.Errorf("Oldest of Count %d, Room 4: %d, want %d", m.count, m.l.Oldest(), want)
		}
		m.push(t, 1, 2)
	}
}

// P8.3: back, on, and far; the words stay, and what is pushed then lies where its number says.
func TestSeek(t *testing.T) {
	for _, before := range []int{0, 2, 3, 5} {
		for _, n := range []int{0, 1, 2, 3, 4, 5, 6, 7, 100, 101, 102, 1 << 31, 1<<32 + 1, 1 << 62, 1<<62 + 1, math.MaxInt - 9, math.MaxInt - 8, math.MaxInt - 7} {
			m := made(t, 1, 7, 2)
			for number := range before {
				m.push(t, frame(number, 2)...)
			}
			m.seek(t, n)
			m.want(t)
			for number := range 5 {
				m.push(t, frame(50+number, 2)...)
				m.want(t)
			}
		}
	}
}

// P8.3: a number that is moved to, told by hand.
func TestSeekWrittenOut(t *testing.T) {
	a := arena.New(7)
	wantErr(t, "Set", a.Set(1, 2, 3, 4, 5, 6, 7), api.OK)
	l := loop.New(a.Part(0, 7), 2)
	if !l.Seek(100) || l.Count() != 100 || l.Oldest() != 97 {
		t.Errorf("Seek(100): Count %d, Oldest %d", l.Count(), l.Oldest())
	}
	wantFrame(t, l, 97, []int{3, 4})
	wantFrame(t, l, 98, []int{5, 6})
	wantFrame(t, l, 99, []int{1, 2})
	wantNone(t, l, 0, 1, 96, 100)
	wantErr(t, "Push", l.Push(8, 9), api.OK)
	if got, want := a.Words(), []int{1, 2, 8, 9, 5, 6, 7}; !slices.Equal(got, want) {
		t.Errorf("Words: %v, want %v", got, want)
	}
	if !l.Seek(2) || l.Count() != 2 || l.Oldest() != 0 {
		t.Errorf("Seek(2): Count %d, Oldest %d", l.Count(), l.Oldest())
	}
	wantFrame(t, l, 0, []int{1, 2})
	wantFrame(t, l, 1, []int{8, 9})
	wantNone(t, l, 2, 98, 99, 100)
	if !l.Seek(0) || l.Count() != 0 || l.Oldest() != 0 {
		t.Errorf("Seek(0): Count %d, Oldest %d", l.Count(), l.Oldest())
	}
	wantNone(t, l, -1, 0, 1, 2)
}

// P8.3
func TestSeekBelow(t *testing.T) {
	for _, before := range []int{0, 1, 3, 5} {
		m := made(t, 1, 7, 2)
		for number := range before {
			m.push(t, frame(number, 2)...)
		}
		for _, n := range []int{-1, -2, -3, -100, -1 << 32, math.MinInt, math.MinInt + 1} {
			if m.l.Seek(n) {
				t.Errorf("Seek(%d): true", n)
			}
			m.want(t)
		}
	}
}

// P8.3, P1: at the greatest number, a frame is pushed, lies where its number says, and is told; nothing panics beyond it.
func TestSeekGreatest(t *testing.T) {
	for room := 1; room <= 5; room++ {
		m := made(t, 1, 2*room+1, 2)
		m.seek(t, math.MaxInt)
		m.want(t)
		m.push(t, 7, 8)
		if got := m.a.Words(); !slices.Equal(got, m.row) {
			t.Errorf("Words: %v, want %v", got, m.row)
		}
		wantFrame(t, m.l, math.MaxInt, []int{7, 8})
		if room > 1 {
			wantFrame(t, m.l, math.MaxInt-1, m.row[m.place(math.MaxInt-1):m.place(math.MaxInt-1)+2])
		}
		wantNone(t, m.l, math.MaxInt-room, -1, 0, math.MinInt, math.MinInt+1)
		for range 2*room + 2 {
			wantErr(t, "Push", m.l.Push(9, 9), api.OK)
			m.l.Count()
			m.l.Oldest()
			wantNone(t, m.l, -1, 0, 1, math.MinInt)
		}
		wantNone(t, m.l, math.MaxInt)
		wantErr(t, "the arena's trouble", m.a.Err(), api.OK)
		m.row = m.a.Words()
		m.seek(t, 3)
		m.want(t)
	}
}

// P8.2 to P8.4: long scripts, held against plain rows, right calls and wrong ones.
func TestScripts(t *testing.T) {
	for seed := range 60 {
		next := chance(seed)
		width := 1 + next(4)
		m := made(t, next(3), width+next(12), width)
		for range 200 {
			row := make([]int, width)
			for i := range row {
				row[i] = words[next(len(words))]
			}
			switch kind := next(20); {
			case kind < 14:
				m.push(t, row...)
			case kind < 16:
				row[next(width)] = noWords[next(len(noWords))]
				wantErr(t, "Push of no word", m.l.Push(row...), api.ErrRange)
			case kind < 17:
				wantErr(t, "Push of too few", m.l.Push(row[1:]...), api.ErrWidth)
			case kind < 18:
				wantErr(t, "Push of too many", m.l.Push(append(row, 0)...), api.ErrWidth)
			case kind < 19:
				m.seek(t, next(40))
			default:
				if m.l.Seek(-1 - next(40)) {
					t.Errorf("Seek of a number below 0: true")
				}
			}
			m.want(t)
		}
	}
}

// P8.4: words and Count, taken to a part that lies elsewhere in another arena, go on as the first loop does.
func TestTakenElsewhere(t *testing.T) {
	for size := 3; size <= 11; size++ {
		for before := range 9 {
			m := made(t, 2, size, 3)
			for number := range before {
				m.push(t, frame(number, 3)...)
			}
			other := arena.New(40)
			part := other.Part(17, size)
			for i := range size {
				part.Put(i, m.p.Get(i))
			}
			l := loop.New(part, 3)
			if !l.Seek(m.l.Count()) {
				t.Errorf("Seek(%d): false", m.l.Count())
			}
			for number := range 8 {
				wantAlike(t, l, m.l)
				m.push(t, frame(30+number, 3)...)
				wantErr(t, "Push", l.Push(frame(30+number, 3)...), api.OK)
			}
			wantAlike(t, l, m.l)
			for i := range size {
				if part.Get(i) != m.p.Get(i) {
					t.Errorf("word %d: %d, want %d", i, part.Get(i), m.p.Get(i))
				}
			}
		}
	}
}

// wantAlike: two loops tell the same.
func wantAlike(t *testing.T, got, want *loop.Loop) {
	t.Helper()
	if got.Count() != want.Count() || got.Oldest() != want.Oldest() || got.Room() != want.Room() {
		t.Errorf("Count, Oldest, Room: %d, %d, %d, want %d, %d, %d", got.Count(), got.Oldest(), got.Room(), want.Count(), want.Oldest(), want.Room())
	}
	for number := -2; number < want.Count()+3; number++ {
		if row, ok := want.Get(number); ok {
			wantFrame(t, got, number, row)
		} else {
			wantNone(t, got, number)
		}
	}
}

// Two loops in one arena, laid out, do not touch each other; trouble that the arena has hinders neither.
func TestLoopsInOneArena(t *testing.T) {
	places, all, err := arena.Layout(7, 5)
	wantErr(t, "Layout", err, api.OK)
	a := arena.New(all)
	a.Get(-1)
	one, two := loop.New(a.Part(places[0], 7), 2), loop.New(a.Part(places[1], 5), 1)
	for number := range 20 {
		wantErr(t, "Push", one.Push(number, number), api.OK)
		wantErr(t, "Push", two.Push(-number), api.OK)
		for n := one.Oldest(); n < one.Count(); n++ {
			wantFrame(t, one, n, []int{n, n})
		}
		for n := two.Oldest(); n < two.Count(); n++ {
			wantFrame(t, two, n, []int{-n})
		}
	}
	wantErr(t, "the arena's trouble", a.Err(), api.ErrArg)
}

// The sentence behind P8.4; a loop that New did not make is as a nil one.
func TestNilLoop(t *testing.T) {
	for _, l := range []*loop.Loop{nil, loop.New(nil, 1), new(loop.Loop)} {
		for _, n := range append([]int{0, 1, 2}, nowhere...) {
			wantNone(t, l, n)
			if l.Seek(n) {
				t.Errorf("Seek(%d) of a nil loop: true", n)
			}
			wantErr(t, "Push of a nil loop", l.Push(n), api.ErrArg)
			wantErr(t, "Push of a nil loop", l.Push(n, n), api.ErrArg)
		}
		wantErr(t, "Push of a nil loop", l.Push(), api.ErrArg)
		if got := []int{l.Width(), l.Room(), l.Count(), l.Oldest()}; !slices.Equal(got, make([]int, 4)) {
			t.Errorf("Width, Room, Count, Oldest of a nil loop: %v", got)
		}
	}
}

// P1: what a nil loop has of its part is what a nil part has.
func TestWhatNilLoopsHaveOfTheirPart(t *testing.T) {
	for _, l := range []*loop.Loop{nil, new(loop.Loop)} {
		l.Put(0, 1)
		l.Put(-1, 1<<31)
		l.Zero()
		if l.Len() != 0 || len(l.Words()) != 0 {
			t.Errorf("Len, Words of a nil loop: %d, %v", l.Len(), l.Words())
		}
		wantErr(t, "Err of a nil loop", l.Err(), api.ErrArg)
		wantErr(t, "Set of a nil loop", l.Set(), api.ErrArg)
	}
}

// Ways: a loop's other methods are its part's.
func TestWhatLoopsHaveOfTheirPart(t *testing.T) {
	a := arena.New(9)
	l := loop.New(a.Part(1, 7), 2)
	wantErr(t, "Push", l.Push(5, 6), api.OK)
	l.Put(1, 7)
	if l.Len() != 7 || !slices.Equal(l.Words(), []int{0, 5, 7, 0, 0, 0, 0, 0, 0}) {
		t.Errorf("Len, Words: %d, %v", l.Len(), l.Words())
	}
	wantFrame(t, l, 0, []int{5, 7})
	wantErr(t, "Set", l.Set(1, 2, 3, 4, 5, 6, 7, 8, 9), api.OK)
	wantFrame(t, l, 0, []int{2, 3})
	l.Zero()
	wantFrame(t, l, 0, []int{0, 0})
	wantErr(t, "Err", l.Err(), api.OK)
	l.Put(7, 1)
	wantErr(t, "Err", l.Err(), api.ErrArg)
}
