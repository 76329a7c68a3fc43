package crc_test

import (
	"hash/crc32"
	"math/big"
	"slices"
	"strings"
	"testing"

	"earshot/crc"
)

// every is a text of all bytes there are, in order.
func every() string {
	row := make([]byte, 256)
	for i := range row {
		row[i] = byte(i)
	}
	return string(row)
}

// mixed is a text of n bytes that are not of a kind; each seed has its own.
func mixed(n, seed int) string {
	x := uint64(seed)*2 + 1
	row := make([]byte, n)
	for i := range row {
		x = x*6364136223846793005 + 1442695040888963407
		row[i] = byte(x >> 56)
	}
	return string(row)
}

// texts are of many lengths: of one byte again and again, of all bytes, not UTF-8, and not of a kind.
func texts() []string {
	row := []string{
		"", "a", "b", "abc", "123456789", "\x00", "\xff", "\x80", "\x7f", "\x01",
		"\xc3\xa4", "\xc3", "\xff\xfe\xfd", "\xed\xa0\x80", "\xf0\x9f\x91\x82", "\xef\xbf\xbd",
		"The quick brown fox jumps over the lazy dog", every(),
	}
	for n := 1; n <= 9; n++ {
		row = append(row, strings.Repeat("\x00", n), strings.Repeat("\xff", n), strings.Repeat("\xaa", n))
	}
	for n := range 70 {
		row = append(row, mixed(n, n))
	}
	return append(row, mixed(1000, 1), mixed(4099, 2), strings.Repeat("\x00", 5000))
}

// remainder is the sum by another way, in numbers of any length: the text is one number, each byte's lowest bit ahead, whose first 32 bits are turned; 32 places higher it is divided by 1 04c11db7, without carry; what is left, its bits turned and told backwards, is the sum.
func remainder(text string) uint32 {
	divisor := big.NewInt(0x104c11db7)
	bits := 8*len(text) + 32
	x := new(big.Int)
	for k := range 8 * len(text) {
		x.SetBit(x, bits-1-k, uint(text[k/8]>>(k%8)&1))
	}
	for k := range 32 {
		x.SetBit(x, bits-1-k, x.Bit(bits-1-k)^1)
	}
	for k := bits - 1; k >= 32; k-- {
		if x.Bit(k) == 1 {
			x.Xor(x, new(big.Int).Lsh(divisor, uint(k-32)))
		}
	}
	var sum uint32
	for k := range 32 {
		sum |= uint32(x.Bit(31-k)^1) << k
	}
	return sum
}

// turned is a text of which bits were turned: those that the pattern has, from bit number at on.
func turned(text string, at int, pattern uint64) string {
	row := []byte(text)
	for ; pattern != 0; pattern >>= 1 {
		row[at/8] ^= byte(pattern&1) << (at % 8)
		at++
	}
	return string(row)
}

func wantSum(t *testing.T, want uint32, parts ...string) {
	t.Helper()
	if got := crc.Sum(parts...); got != want {
		t.Errorf("Sum(%.80q): %08x, want %08x", parts, got, want)
	}
}

func wantOpened(t *testing.T, frame, want string) {
	t.Helper()
	if got, ok := crc.Open(frame); got != want || !ok {
		t.Errorf("Open(%.80q): %.80q, %v, want %.80q, true", frame, got, ok, want)
	}
}

func wantRefused(t *testing.T, frame string) {
	t.Helper()
	if got, ok := crc.Open(frame); got != "" || ok {
		t.Errorf("Open(%.80q): %.80q, %v, want nothing, false", frame, got, ok)
	}
}

// P5.1
func TestSumWrittenOut(t *testing.T) {
	wantSum(t, 0xcbf43926, "12345", "6789")
	for _, c := range []struct {
		text string
		want uint32
	}{
		{"", 0}, {"a", 0xe8b7be43}, {"abc", 0x352441c2}, {"123456789", 0xcbf43926},
		{"\x00", 0xd202ef8d}, {"\xff", 0xff000000}, {"\x00\x00\x00\x00", 0x2144df1c}, {"\xff\xff\xff\xff", 0xffffffff},
		{"The quick brown fox jumps over the lazy dog", 0x414fa339}, {every(), 0x29058c73},
	} {
		wantSum(t, c.want, c.text)
	}
}

// P5.1
func TestSumOfNothing(t *testing.T) {
	wantSum(t, 0)
	wantSum(t, 0, []string{}...)
	wantSum(t, 0, "")
	wantSum(t, 0, "", "", "")
	wantSum(t, 0, make([]string, 1000)...)
}

// P5.1
func TestSumOfEachByte(t *testing.T) {
	for b := range 256 {
		one := string([]byte{byte(b)})
		wantSum(t, remainder(one), one)
		wantSum(t, remainder("a"+one), "a", one)
		wantSum(t, remainder(one+"a"), one, "a")
	}
}

// P5.1
func TestSum(t *testing.T) {
	for _, s := range texts() {
		wantSum(t, crc32.ChecksumIEEE([]byte(s)), s)
		wantSum(t, remainder(s), s)
	}
}

// P5.1
func TestSumOfLongTexts(t *testing.T) {
	for _, s := range []string{mixed(1<<20, 3), strings.Repeat("\xff", 1<<20+1)} {
		wantSum(t, crc32.ChecksumIEEE([]byte(s)), s)
		wantSum(t, crc32.ChecksumIEEE([]byte(s)), s[:1<<19], s[1<<19:])
	}
}

// P5.1: wherever a text is cut, also within a rune, and with empty parts anywhere.
func TestSumOfTextsThatAreCut(t *testing.T) {
	for _, s := range []string{"123456789", "\xf0\x9f\x91\x82\xc3\xa4", "\xff\x00\xff\x00\xff", mixed(40, 4)} {
		whole := remainder(s)
		for i := range len(s) + 1 {
			wantSum(t, whole, s[:i], s[i:])
			wantSum(t, whole, "", s[:i], "", s[i:], "")
			for j := i; j <= len(s); j++ {
				wantSum(t, whole, s[:i], s[i:j], s[j:])
			}
		}
		var bytes []string
		for i := range len(s) {
			bytes = append(bytes, s[i:i+1])
		}
		wantSum(t, whole, bytes...)
	}
}

// P5.1: the parts' order is kept, and a text that is told twice is another one.
func TestSumGoesByOrder(t *testing.T) {
	wantSum(t, remainder("6789"+"12345"), "6789", "12345")
	wantSum(t, remainder("aa"), "a", "a")
	wantSum(t, remainder("\x00\x00"), "\x00", "\x00")
	if crc.Sum("12345", "6789") == crc.Sum("6789", "12345") {
		t.Error("Sum: the same in another order")
	}
}

// P5.1, R3
func TestSumLeavesItsRow(t *testing.T) {
	row := []string{"12345", "", "6789"}
	kept := slices.Clone(row)
	for range 3 {
		wantSum(t, 0xcbf43926, row...)
	}
	if !slices.Equal(row, kept) {
		t.Errorf("Sum: its row is %q, want %q", row, kept)
	}
}

// P5.2
func TestSealWrittenOut(t *testing.T) {
	for _, c := range []struct{ s, want string }{
		{"", "\x00\x00\x00\x00"},
		{"a", "a\x43\xbe\xb7\xe8"},
		{"123456789", "123456789\x26\x39\xf4\xcb"},
		{"\x00", "\x00\x8d\xef\x02\xd2"},
		{"\xff", "\xff\x00\x00\x00\xff"},
		{"\x00\x00\x00\x00", "\x00\x00\x00\x00\x1c\xdf\x44\x21"},
		{"\xff\xff\xff\xff", "\xff\xff\xff\xff\xff\xff\xff\xff"},
	} {
		if got := crc.Seal(c.s); got != c.want {
			t.Errorf("Seal(%q): %q, want %q", c.s, got, c.want)
		}
		wantOpened(t, c.want, c.s)
	}
}

// P5.2
func TestSeal(t *testing.T) {
	for _, s := range texts() {
		sum := remainder(s)
		frame := []byte(s)
		for range 4 {
			frame = append(frame, byte(sum%256))
			sum /= 256
		}
		if got := crc.Seal(s); got != string(frame) {
			t.Errorf("Seal(%.80q): %.80q, want %.80q", s, got, frame)
		}
		wantOpened(t, string(frame), s)
	}
}

// P5.2: a frame of fewer than four bytes has no room for a sum.
func TestOpenOfShortFrames(t *testing.T) {
	wantRefused(t, "")
	for a := range 256 {
		wantRefused(t, string([]byte{byte(a)}))
		for b := range 256 {
			wantRefused(t, string([]byte{byte(a), byte(b)}))
			wantRefused(t, string([]byte{byte(a), byte(b), byte(a)}))
		}
	}
	wantRefused(t, "\x00\x00\x00")
	wantRefused(t, "\xff\xff\xff")
}

// P5.2: what a sealed frame is cut down to, or lengthened to, is none.
func TestOpenOfFramesThatAreCut(t *testing.T) {
	for _, s := range []string{"a", "123456789", "\xffabc", mixed(30, 5)} {
		frame := crc.Seal(s)
		for i := range len(frame) {
			wantRefused(t, frame[:i])
		}
		for i := 1; i < len(frame); i++ {
			wantRefused(t, frame[i:])
		}
		wantRefused(t, frame+"\x00")
		wantRefused(t, "\x00"+frame)
		wantRefused(t, frame+frame)
	}
}

// P5.2
func TestOpenOfOtherSums(t *testing.T) {
	for _, s := range texts() {
		frame := crc.Seal(s)
		end := frame[len(s):]
		wantRefused(t, s+string([]byte{^end[0], ^end[1], ^end[2], ^end[3]}))
		if back := string([]byte{end[3], end[2], end[1], end[0]}); back != end {
			wantRefused(t, s+back)
		}
		if ahead := end + s; ahead != frame {
			wantRefused(t, ahead)
		}
		for i := range 4 {
			wantRefused(t, turned(frame, 8*(len(s)+i), 1))
			wantRefused(t, turned(frame, 8*(len(s)+i), 0x80))
		}
	}
}

// P5.2: a frame that is Seal of another text is that one's, however it came to be.
func TestOpenOfFramesOfOtherTexts(t *testing.T) {
	const undivided = 0x1db710641
	for _, s := range []string{"a", "123456789", mixed(20, 6)} {
		frame := crc.Seal(s)
		for at := 0; at+33 <= 8*len(frame); at++ {
			other := turned(frame, at, undivided)
			wantOpened(t, other, other[:len(s)])
		}
	}
	inner := crc.Seal("a")
	wantOpened(t, crc.Seal(inner), inner)
}

// P5.3
func TestWhatIsSealedIsOpened(t *testing.T) {
	for _, s := range append(texts(), mixed(1<<18, 7)) {
		wantOpened(t, crc.Seal(s), s)
	}
	for b := range 1 << 16 {
		s := string([]byte{byte(b), byte(b >> 8)})
		wantOpened(t, crc.Seal(s), s)
	}
}

// P5.3: at each place of the frame: across bytes, across the text's end, among the sum's own bytes.
func TestOneBitTurned(t *testing.T) {
	for _, s := range texts() {
		if len(s) > 256 {
			continue
		}
		frame := crc.Seal(s)
		for at := range 8 * len(frame) {
			wantRefused(t, turned(frame, at, 1))
		}
	}
}

// P5.3
func TestTwoBitsTurned(t *testing.T) {
	for _, s := range []string{"", "a", "abc", "123456789", "\x00\x00\x00\x00\x00", "\xff\xff\xff\xff", mixed(33, 8)} {
		frame := crc.Seal(s)
		for at := range 8 * len(frame) {
			for gap := 1; gap < 32 && at+gap < 8*len(frame); gap++ {
				wantRefused(t, turned(frame, at, 1|1<<gap))
			}
		}
	}
}

// P5.3: all that can be turned within ten bits, at each place.
func TestFewBitsTurned(t *testing.T) {
	for _, s := range []string{"", "a", "\xff\x00", mixed(6, 9)} {
		frame := crc.Seal(s)
		for at := range 8 * len(frame) {
			for pattern := uint64(1); pattern < 1<<10; pattern += 2 {
				if at+10 <= 8*len(frame) {
					wantRefused(t, turned(frame, at, pattern))
				}
			}
		}
	}
}

// P5.3: up to 32 bits in a row, first and last of them turned, at each place: none, all or some of those between.
func TestManyBitsTurned(t *testing.T) {
	x := uint64(1)
	for _, s := range []string{"", "a", "abcd", "123456789", strings.Repeat("\x00", 12), mixed(25, 10)} {
		frame := crc.Seal(s)
		for width := 1; width <= 32; width++ {
			ends, all := uint64(1|1<<(width-1)), uint64(1<<width-1)
			for at := 0; at+width <= 8*len(frame); at++ {
				wantRefused(t, turned(frame, at, ends))
				wantRefused(t, turned(frame, at, all))
				for range 6 {
					x = x*6364136223846793005 + 1442695040888963407
					wantRefused(t, turned(frame, at, ends|x>>32&all))
				}
			}
		}
	}
}

// P5.3: the polynomial's own bits, less one of its ends, fit into 32 in a row.
func TestBitsOfThePolynomialTurned(t *testing.T) {
	for _, pattern := range []uint64{0xedb88320, 0xdb710641, 0x04c11db7, 0xffffffff, 0x80000001, 0xaaaaaaaa, 0x55555555} {
		for _, s := range []string{"", "a", "123456789", mixed(21, 11)} {
			frame := crc.Seal(s)
			for at := 0; at+32 <= 8*len(frame); at++ {
				wantRefused(t, turned(frame, at, pattern))
			}
		}
	}
}
