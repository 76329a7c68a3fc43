package tape_test

import (
	"encoding/binary"
	"fmt"
	"math"
	"slices"
	"strings"
	"testing"

	"earshot/api"
	"earshot/tape"
)

// made is something that was written: by which call, and of which numbers; a Long's is the first one, bit by bit.
type made struct {
	call string
	xs   []int
}

// calls are all there are of either.
var calls = []string{"Byte", "Short", "Word", "Long", "Row"}

func write(w *tape.Writer, m made) {
	switch m.call {
	case "Byte":
		w.Byte(m.xs[0])
	case "Short":
		w.Short(m.xs[0])
	case "Word":
		w.Word(m.xs[0])
	case "Long":
		w.Long(uint64(m.xs[0]))
	case "Row":
		w.Row(m.xs...)
	}
}

// laid is what is written, by another way.
func laid(m made) string {
	var row []byte
	switch m.call {
	case "Byte":
		row = append(row, byte(m.xs[0]))
	case "Short":
		row = binary.LittleEndian.AppendUint16(row, uint16(m.xs[0]))
	case "Word":
		row = binary.LittleEndian.AppendUint32(row, uint32(m.xs[0]))
	case "Long":
		row = binary.LittleEndian.AppendUint64(row, uint64(m.xs[0]))
	case "Row":
		row = binary.LittleEndian.AppendUint16(row, uint16(len(m.xs)))
		for _, x := range m.xs {
			row = binary.LittleEndian.AppendUint32(row, uint32(x))
		}
	}
	return string(row)
}

func read(r *tape.Reader, call string) []int {
	switch call {
	case "Byte":
		return []int{r.Byte()}
	case "Short":
		return []int{r.Short()}
	case "Word":
		return []int{r.Word()}
	case "Long":
		return []int{int(r.Long())}
	}
	return r.Row()
}

// found is what of a number's bits was written, as it is read.
func found(m made) []int {
	row := slices.Clone(m.xs)
	for i, x := range row {
		switch m.call {
		case "Byte":
			row[i] = x & 0xff
		case "Short":
			row[i] = x & 0xffff
		case "Word", "Row":
			row[i] = (x+1<<31)&0xffffffff - 1<<31
		}
	}
	return row
}

// nothing is what a call tells that takes nothing.
func nothing(call string) []int {
	if call == "Row" {
		return nil
	}
	return []int{0}
}

// numbers lie at the ends of all that may be written, and one beside.
func numbers() []int {
	row := []int{0, math.MinInt, math.MaxInt, 0x0123456789abcdef, -0x0123456789abcdef}
	for _, bits := range []int{0, 1, 7, 8, 9, 15, 16, 17, 24, 31, 32, 33, 47, 48, 56, 62} {
		for d := -1; d <= 1; d++ {
			row = append(row, 1<<bits+d, -1<<bits+d)
		}
	}
	return row
}

// script is n things that are not of a kind; each seed has its own.
func script(n, seed int) []made {
	x := uint64(seed)*2 + 1
	next := func() uint64 {
		x = x*6364136223846793005 + 1442695040888963407
		return x >> 32
	}
	number := func() int {
		return int(next()<<32|next()) >> (next() % 64)
	}
	row := make([]made, n)
	for i := range row {
		call := calls[next()%5]
		size := 1
		if call == "Row" {
			size = int(next() % 6)
		}
		row[i].call = call
		for range size {
			row[i].xs = append(row[i].xs, number())
		}
	}
	return row
}

func wantWritten(t *testing.T, w *tape.Writer, want string) {
	t.Helper()
	if got := w.Text(); got != want {
		t.Errorf("Text: %.120q, want %.120q", got, want)
	}
	if got := w.At(); got != len(want) {
		t.Errorf("Writer.At: %d, want %d", got, len(want))
	}
}

func wantRead(t *testing.T, r *tape.Reader, call string, want []int) {
	t.Helper()
	if got := read(r, call); !slices.Equal(got, want) {
		t.Errorf("%s: %.120s, want %.120s", call, fmt.Sprint(got), fmt.Sprint(want))
	}
}

func wantPlace(t *testing.T, r *tape.Reader, at, left int, err api.Errno) {
	t.Helper()
	if r.At() != at || r.Left() != left || r.Err() != err {
		t.Errorf("At, Left, Err: %d, %d, %d, want %d, %d, %d", r.At(), r.Left(), int(r.Err()), at, left, int(err))
	}
}

// wantStuck: each call takes nothing, and tells nothing, again and again.
func wantStuck(t *testing.T, r *tape.Reader, at, left int, err api.Errno) {
	t.Helper()
	wantPlace(t, r, at, left, err)
	for range 2 {
		for _, call := range calls {
			wantRead(t, r, call, nothing(call))
			wantPlace(t, r, at, left, err)
		}
	}
}

// P6.1
func TestZeroWriter(t *testing.T) {
	var w tape.Writer
	wantWritten(t, &w, "")
	wantWritten(t, &w, "")
	wantWritten(t, new(tape.Writer), "")
	wantWritten(t, &tape.Writer{}, "")
}

// P6.1
func TestWrittenOut(t *testing.T) {
	for _, c := range []struct {
		call string
		x    int
		want string
	}{
		{"Byte", 0, "\x00"}, {"Byte", 1, "\x01"}, {"Byte", 255, "\xff"}, {"Byte", 256, "\x00"}, {"Byte", 300, "\x2c"},
		{"Byte", -1, "\xff"}, {"Byte", -128, "\x80"}, {"Byte", -255, "\x01"}, {"Byte", -256, "\x00"}, {"Byte", math.MinInt, "\x00"}, {"Byte", math.MaxInt, "\xff"},
		{"Short", 0, "\x00\x00"}, {"Short", 0x0102, "\x02\x01"}, {"Short", 65535, "\xff\xff"}, {"Short", 65536, "\x00\x00"}, {"Short", 0x030201, "\x01\x02"},
		{"Short", -2, "\xfe\xff"}, {"Short", -65535, "\x01\x00"}, {"Short", math.MinInt, "\x00\x00"},
		{"Word", 0x04030201, "\x01\x02\x03\x04"}, {"Word", -3, "\xfd\xff\xff\xff"}, {"Word", -1 << 31, "\x00\x00\x00\x80"}, {"Word", 1<<31 - 1, "\xff\xff\xff\x7f"},
		{"Word", 1 << 31, "\x00\x00\x00\x80"}, {"Word", 1<<32 + 5, "\x05\x00\x00\x00"}, {"Word", -1<<32 - 1, "\xff\xff\xff\xff"},
		{"Long", 0x0807060504030201, "\x01\x02\x03\x04\x05\x06\x07\x08"}, {"Long", 1 << 40, "\x00\x00\x00\x00\x00\x01\x00\x00"},
		{"Long", -1, "\xff\xff\xff\xff\xff\xff\xff\xff"}, {"Long", math.MinInt, "\x00\x00\x00\x00\x00\x00\x00\x80"},
	} {
		var w tape.Writer
		write(&w, made{c.call, []int{c.x}})
		if w.Text() != c.want || w.At() != len(c.want) {
			t.Errorf("%s(%d): %x, %d, want %x, %d", c.call, c.x, w.Text(), w.At(), c.want, len(c.want))
		}
	}
}

// P6.1
func TestWrittenNumbers(t *testing.T) {
	for _, x := range numbers() {
		for _, call := range calls {
			m := made{call, []int{x}}
			var w tape.Writer
			write(&w, m)
			wantWritten(t, &w, laid(m))
		}
	}
}

// P6.1
func TestRowOfTheExample(t *testing.T) {
	var w tape.Writer
	w.Row(-1, 5)
	wantWritten(t, &w, "\x02\x00\xff\xff\xff\xff\x05\x00\x00\x00")
}

// P6.1
func TestRowOfNothing(t *testing.T) {
	var w tape.Writer
	w.Row()
	wantWritten(t, &w, "\x00\x00")
	w.Row(nil...)
	w.Row([]int{}...)
	wantWritten(t, &w, "\x00\x00\x00\x00\x00\x00")
}

// P6.1: a row of as many as a Short tells is written, and one of more is not, not even in part.
func TestRowsOfMany(t *testing.T) {
	long := make([]int, 1<<18)
	for i := range long {
		long[i] = 7*i - 1<<17
	}
	for _, n := range []int{255, 256, 257, 65534, 65535} {
		m := made{"Row", long[:n]}
		var w tape.Writer
		w.Row(m.xs...)
		wantWritten(t, &w, laid(m))
		r := tape.Read(w.Text())
		wantRead(t, r, "Row", m.xs)
		wantPlace(t, r, 2+4*n, 0, api.OK)
	}
	for _, n := range []int{65536, 65537, 1<<17 - 1, 1 << 17, 1 << 18} {
		var w tape.Writer
		w.Row(long[:n]...)
		wantWritten(t, &w, "")
		w.Byte(9)
		w.Row(long[:n]...)
		wantWritten(t, &w, "\x09")
		w.Row(8)
		wantWritten(t, &w, "\x09\x01\x00\x08\x00\x00\x00")
	}
}

// P6.1, R3
func TestRowLeavesItsNumbers(t *testing.T) {
	row := numbers()
	kept := slices.Clone(row)
	var w tape.Writer
	w.Row(row...)
	want := w.Text()
	if !slices.Equal(row, kept) {
		t.Errorf("Row: its numbers are %v, want %v", row, kept)
	}
	clear(row)
	wantWritten(t, &w, want)
}

// P6.1: whatever was written ahead, it stays, and what was told of it stays.
func TestTextBehindEachCall(t *testing.T) {
	for seed := range 40 {
		var w tape.Writer
		var told []string
		want := ""
		for _, m := range script(60, seed) {
			write(&w, m)
			want += laid(m)
			wantWritten(t, &w, want)
			told = append(told, w.Text())
		}
		for _, s := range told {
			if !strings.HasPrefix(want, s) {
				t.Errorf("Text: what was told became %q", s)
			}
		}
	}
}

// P6.1
func TestManyWritten(t *testing.T) {
	const n = 1 << 18
	var w tape.Writer
	want := make([]byte, n)
	for i := range want {
		w.Byte(i * i)
		want[i] = byte(i * i)
	}
	wantWritten(t, &w, string(want))
}

// P6.1, R3: what a writer has is its own, wherever it was copied from.
func TestWritersThatWereCopied(t *testing.T) {
	for n := range 40 {
		var w tape.Writer
		text := ""
		for _, m := range script(n, n) {
			write(&w, m)
			text += laid(m)
		}
		first, second := w, w
		first.Byte(1)
		first.Long(3)
		second.Byte(2)
		second.Row(4, 5)
		kept := first
		first = w
		first.Byte(6)
		wantWritten(t, &w, text)
		wantWritten(t, &first, text+"\x06")
		wantWritten(t, &second, text+"\x02\x02\x00\x04\x00\x00\x00\x05\x00\x00\x00")
		wantWritten(t, &kept, text+"\x01\x03\x00\x00\x00\x00\x00\x00\x00")
	}
}

// P6.1, R4: writers have nothing in common.
func TestWritersSideBySide(t *testing.T) {
	var a, b tape.Writer
	a.Byte(1)
	b.Byte(2)
	a.Short(3)
	b.Row(4)
	wantWritten(t, &a, "\x01\x03\x00")
	wantWritten(t, &b, "\x02\x01\x00\x04\x00\x00\x00")
}

// P6.2
func TestReadOfNothing(t *testing.T) {
	for _, call := range calls {
		for _, r := range []*tape.Reader{tape.Read(""), new(tape.Reader)} {
			wantPlace(t, r, 0, 0, api.OK)
			wantRead(t, r, call, nothing(call))
			wantStuck(t, r, 0, 0, api.ErrShort)
		}
	}
}

// P6.2
func TestReadOut(t *testing.T) {
	for _, c := range []struct {
		call, s string
		want    []int
	}{
		{"Byte", "\x00", []int{0}}, {"Byte", "\x7f", []int{127}}, {"Byte", "\x80", []int{128}}, {"Byte", "\xff", []int{255}},
		{"Short", "\x01\x02", []int{513}}, {"Short", "\x00\x80", []int{32768}}, {"Short", "\xff\x7f", []int{32767}}, {"Short", "\xff\xff", []int{65535}},
		{"Word", "\x01\x02\x03\x04", []int{0x04030201}}, {"Word", "\xff\xff\xff\x7f", []int{1<<31 - 1}}, {"Word", "\x00\x00\x00\x80", []int{-1 << 31}},
		{"Word", "\xff\xff\xff\xff", []int{-1}}, {"Word", "\x01\x00\x00\x80", []int{-1<<31 + 1}}, {"Word", "\x00\x00\x00\x00", []int{0}},
		{"Long", "\x01\x02\x03\x04\x05\x06\x07\x08", []int{0x0807060504030201}}, {"Long", "\x00\x00\x00\x00\x00\x01\x00\x00", []int{1 << 40}},
		{"Row", "\x00\x00", nil}, {"Row", "\x02\x00\xff\xff\xff\xff\x05\x00\x00\x00", []int{-1, 5}},
		{"Row", "\x01\x00\x00\x00\x00\x80", []int{-1 << 31}}, {"Row", "\x01\x00\xff\xff\xff\x7f", []int{1<<31 - 1}},
	} {
		for _, more := range []string{"", "\xaa", strings.Repeat("\xbb", 20)} {
			r := tape.Read(c.s + more)
			wantPlace(t, r, 0, len(c.s)+len(more), api.OK)
			wantRead(t, r, c.call, c.want)
			wantPlace(t, r, len(c.s), len(more), api.OK)
		}
	}
}

// P6.2: a Long has all 64 bits, and none of them is a sign.
func TestReadOfGreatLongs(t *testing.T) {
	for _, x := range []uint64{0, 1, 1<<63 - 1, 1 << 63, 1<<63 + 1, 1<<64 - 1, 0xf0e0d0c0b0a09080} {
		var w tape.Writer
		w.Long(x)
		if got := tape.Read(w.Text()).Long(); got != x {
			t.Errorf("Long: %d, want %d", got, x)
		}
	}
}

// P6.2
func TestReadOfEachShort(t *testing.T) {
	var text []byte
	for x := range 1 << 16 {
		text = binary.LittleEndian.AppendUint16(text, uint16(x))
	}
	r := tape.Read(string(text))
	b := tape.Read(string(text))
	for x := range 1 << 16 {
		wantRead(t, r, "Short", []int{x})
		wantRead(t, b, "Byte", []int{x % 256})
		wantRead(t, b, "Byte", []int{x / 256})
	}
	wantPlace(t, r, 1<<17, 0, api.OK)
	wantPlace(t, b, 1<<17, 0, api.OK)
}

// P6.2: with too few bytes none is taken, and none is taken any more, even if it would be enough.
func TestReadOfTooFew(t *testing.T) {
	for _, c := range []struct {
		call string
		size int
	}{{"Byte", 1}, {"Short", 2}, {"Word", 4}, {"Long", 8}, {"Row", 2}} {
		for n := range c.size {
			for ahead := range 3 {
				r := tape.Read(strings.Repeat("\x01", ahead+n))
				for range ahead {
					wantRead(t, r, "Byte", []int{1})
				}
				wantPlace(t, r, ahead, n, api.OK)
				wantRead(t, r, c.call, nothing(c.call))
				wantStuck(t, r, ahead, n, api.ErrShort)
			}
		}
	}
}

// P6.2: the count, and the numbers that are there, are taken; what is told is nothing.
func TestReadOfRowsThatAreShort(t *testing.T) {
	row := []int{-1, 1 << 30, 5, -1 << 31}
	whole := laid(made{"Row", row})
	for n := range len(whole) {
		at := 0
		if n >= 2 {
			at = 2 + (n-2)/4*4
		}
		r := tape.Read(whole[:n])
		wantRead(t, r, "Row", nil)
		wantStuck(t, r, at, n-at, api.ErrShort)
	}
	r := tape.Read("\x01\x00\x05")
	wantRead(t, r, "Row", nil)
	wantStuck(t, r, 2, 1, api.ErrShort)
	r = tape.Read("\xff\xff" + strings.Repeat("\x07", 4*65535-1))
	wantRead(t, r, "Row", nil)
	wantStuck(t, r, 4*65535-2, 3, api.ErrShort)
}

// P6.2, R3: a row that was told is the caller's.
func TestReadRowsAreTheCallers(t *testing.T) {
	s := "\x02\x00\x01\x00\x00\x00\x02\x00\x00\x00"
	r := tape.Read(s + s)
	first := r.Row()
	clear(first)
	second := r.Row()
	first = append(first[:1], 9, 9)
	if !slices.Equal(second, []int{1, 2}) {
		t.Errorf("Row: %v, want [1 2]; the other one is %v", second, first)
	}
	wantRead(t, tape.Read(s), "Row", []int{1, 2})
}

// P6.2, R4
func TestReadersSideBySide(t *testing.T) {
	s := "\x01\x02\x03"
	a, b := tape.Read(s), tape.Read(s)
	wantRead(t, a, "Byte", []int{1})
	wantRead(t, a, "Word", []int{0})
	wantPlace(t, b, 0, 3, api.OK)
	wantRead(t, b, "Short", []int{0x0201})
	c := *b
	wantRead(t, b, "Byte", []int{3})
	wantPlace(t, &c, 2, 1, api.OK)
	wantRead(t, &c, "Byte", []int{3})
	wantPlace(t, a, 1, 2, api.ErrShort)
	wantPlace(t, b, 3, 0, api.OK)
}

// P6.3
func TestWhatWasWrittenIsRead(t *testing.T) {
	for seed := range 60 {
		row := script(50, seed)
		var w tape.Writer
		for _, m := range row {
			write(&w, m)
		}
		r := tape.Read(w.Text())
		at := 0
		for _, m := range row {
			wantRead(t, r, m.call, found(m))
			at += len(laid(m))
			wantPlace(t, r, at, w.At()-at, api.OK)
		}
		wantPlace(t, r, w.At(), 0, api.OK)
	}
	for _, x := range numbers() {
		for _, call := range calls {
			m := made{call, []int{x}}
			var w tape.Writer
			write(&w, m)
			wantRead(t, tape.Read(w.Text()), call, found(m))
		}
	}
}

// P6.3: up to the cut all is read; what lies across it, or behind it, is not.
func TestWhatIsCutIsShort(t *testing.T) {
	for seed := range 8 {
		row := script(14, 100+seed)
		var w tape.Writer
		for _, m := range row {
			write(&w, m)
		}
		for cut := range w.At() {
			wantCut(t, w.Text()[:cut], row)
		}
	}
}

// wantCut: the text is what of the row is left, and the last of the row is not wholly there.
func wantCut(t *testing.T, text string, row []made) {
	t.Helper()
	r := tape.Read(text)
	at := 0
	for i, m := range row {
		if at+len(laid(m)) > len(text) {
			if left := len(text) - at; m.call == "Row" && left >= 2 {
				at += 2 + (left-2)/4*4
			}
			for _, m := range row[i:] {
				wantRead(t, r, m.call, nothing(m.call))
				wantPlace(t, r, at, len(text)-at, api.ErrShort)
			}
			break
		}
		wantRead(t, r, m.call, found(m))
		at += len(laid(m))
		wantPlace(t, r, at, len(text)-at, api.OK)
	}
	wantStuck(t, r, at, len(text)-at, api.ErrShort)
}

// P6.3: the sentences behind it.
func TestNilWriter(t *testing.T) {
	var w *tape.Writer
	wantWritten(t, w, "")
	for _, call := range calls {
		write(w, made{call, []int{5}})
		wantWritten(t, w, "")
	}
	w.Row()
	w.Row(make([]int, 65535)...)
	w.Row(make([]int, 65536)...)
	wantWritten(t, w, "")
}

// P6.3: the sentences behind it.
func TestNilReader(t *testing.T) {
	wantStuck(t, nil, 0, 0, api.ErrArg)
	for _, call := range calls {
		var r *tape.Reader
		wantRead(t, r, call, nothing(call))
		wantPlace(t, r, 0, 0, api.ErrArg)
	}
}
