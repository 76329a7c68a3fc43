package front_test

import (
	"math/big"
	"slices"
	"testing"

	"earshot/api"
	"earshot/front"
)

// noSamples lie beyond either end of a sample.
var noSamples = []int{-32769, 32768, -65536, 65536, -1 << 32, 1 << 32, 1<<32 + 5, least, least + 1, greatest}

// small is a front whose frames overlap, and are soon whole.
var small = api.Front{Size: 16, Hop: 6, Bands: 4, Coefs: 3, Pre: 16384}

// wave is a rule for samples that go to both ends.
func wave(t int) int { return (t*t*12347+t*31)%65536 - 32768 }

// flattened is all of some sound, by the words of the chapter.
func flattened(f api.Front, sound []int) []int {
	return made(len(sound), func(t int) int {
		if t == 0 {
			return sound[0]
		}
		return sound[t] - halved(f.Pre*sound[t-1], 15)
	})
}

// framesOf is the frames of all of some sound at once, by the words of the chapter.
func framesOf(f api.Front, sound []int) [][]int {
	ys := flattened(f, sound)
	var all [][]int
	for i := 0; i*f.Hop+f.Size <= len(ys); i++ {
		all = append(all, told(f, ys[i*f.Hop:i*f.Hop+f.Size]))
	}
	return all
}

// tailOf is what a stream has of all of some sound, by the words of the chapter.
func tailOf(f api.Front, sound []int) api.Tail {
	if len(sound) == 0 {
		return api.Tail{}
	}
	first := 0
	for first+f.Size <= len(sound) {
		first += f.Hop
	}
	return api.Tail{Count: len(sound), Last: sound[len(sound)-1], Rest: flattened(f, sound)[first:]}
}

// neededOf is how many of n samples are needed still, in numbers of any length: n less Hop for each frame that is whole.
func neededOf(f api.Front, n int) int {
	if n < f.Size {
		return n
	}
	frames := new(big.Int).Div(big.NewInt(int64(n)-int64(f.Size)), big.NewInt(int64(f.Hop)))
	frames.Add(frames, big.NewInt(1))
	return int(new(big.Int).Sub(big.NewInt(int64(n)), frames.Mul(frames, big.NewInt(int64(f.Hop)))).Int64())
}

// stream is a new one of a front that is right.
func stream(t *testing.T, f api.Front) *front.Stream {
	t.Helper()
	s := front.New(f)
	if s == nil {
		t.Fatalf("New(%v): nil", f)
	}
	return s
}

// pushed is what a stream tells of samples that are right.
func pushed(t *testing.T, s *front.Stream, samples ...int) [][]int {
	t.Helper()
	frames, err := s.Push(samples...)
	wantErr(t, "Push", err, api.OK)
	return frames
}

// heard is a stream that has had some sound.
func heard(t *testing.T, f api.Front, sound ...int) *front.Stream {
	t.Helper()
	s := stream(t, f)
	pushed(t, s, sound...)
	return s
}

func wantErr(t *testing.T, what string, got, want api.Errno) {
	t.Helper()
	if got != want {
		t.Errorf("%s: %d, want %d", what, int(got), int(want))
	}
}

func wantFrames(t *testing.T, what string, got, want [][]int) {
	t.Helper()
	if !slices.EqualFunc(got, want, slices.Equal[[]int]) {
		t.Errorf("%s: frames %v, want %v", what, got, want)
	}
}

// wantTail: a stream has just what a tail tells.
func wantTail(t *testing.T, what string, s *front.Stream, want api.Tail) {
	t.Helper()
	got := s.Tail()
	if got.Count != want.Count || got.Last != want.Last || !slices.Equal(got.Rest, want.Rest) {
		t.Errorf("%s: tail %v, want %v", what, got, want)
	}
	if n := s.Count(); n != want.Count {
		t.Errorf("%s: Count %d, want %d", what, n, want.Count)
	}
}

// wantRefused: what is pushed is none of it samples, and nothing is told, nor done.
func wantRefused(t *testing.T, s *front.Stream, samples ...int) {
	t.Helper()
	was := s.Tail()
	frames, err := s.Push(samples...)
	wantErr(t, "Push of what is no sample", err, api.ErrRange)
	wantFrames(t, "Push of what is no sample", frames, nil)
	wantTail(t, "behind a Push of what is no sample", s, was)
}

// wantNotSet: a tail may not be, and nothing is done.
func wantNotSet(t *testing.T, s *front.Stream, tail api.Tail) {
	t.Helper()
	was := s.Tail()
	if err := s.Set(tail); err != api.ErrArg {
		t.Errorf("Set(%v): %d, want ErrArg", tail, int(err))
	}
	wantTail(t, "behind a Set of a tail that may not be", s, was)
}

// The chapter's example.
func TestExample(t *testing.T) {
	s := stream(t, api.Front{Size: 16, Hop: 8, Bands: 4, Coefs: 4, Pre: 0})
	for i, n := range []int{31, 1} {
		if got := len(pushed(t, s, made(n, wave)...)); got != 2-i {
			t.Errorf("%d samples: %d frames, want %d", n, got, 2-i)
		}
	}
}

// P13.2
func TestNew(t *testing.T) {
	for _, f := range fronts() {
		s := stream(t, f)
		wantTail(t, "a new stream", s, api.Tail{})
		wantFrames(t, "a new stream, of no samples", pushed(t, s), nil)
		wantTail(t, "a new stream that was handed no samples", s, api.Tail{})
	}
	for _, f := range wrongs() {
		if front.New(f) != nil {
			t.Errorf("New(%v): a stream", f)
		}
	}
}

// P13.2: frames that overlap, that stand side by side, and what a stream has behind them; written out, so that nothing here hangs on the layers below.
func TestPushWrittenOut(t *testing.T) {
	for _, c := range []struct {
		f      api.Front
		n      int
		frames [][]int
		last   int
		rest   []int
	}{
		{api.Front{Size: 16, Hop: 6, Bands: 4, Coefs: 3, Pre: 16384}, 40,
			[][]int{{61737, -292, -597}, {61540, -318, -655}, {60493, -431, 271}, {59959, -821, -156}, {60553, -1479, 425}},
			4932, []int{6243, -30795, 42818, -35062, 30477, 10059, -30780, 39032, -42649, 19089}},
		{api.Front{Size: 16, Hop: 16, Bands: 8, Coefs: 2, Pre: 32767}, 50, [][]int{{114134, -4630}, {113436, -4774}, {113505, -6948}}, -8374, []int{-6653, 18041}},
		{api.Front{Size: 32, Hop: 20, Bands: 4, Coefs: 4, Pre: 0}, 80, [][]int{{63561, 48, 172, 439}, {62173, -1032, 322, -268}, {63657, -93, -15, 480}},
			22508, []int{-15116, -28426, -17042, 19036, 14272, -31334, 13290, 17072, -19988, -32354, -20026, 16996, 13176, -31486, 14082, 18808, -17308, -28730, -15458, 22508}},
		{api.Front{Size: 16, Hop: 15, Bands: 4, Coefs: 2, Pre: 31130}, 47, [][]int{{62194, -503}, {60902, -642}, {60994, -1722}}, 11582, []int{-14334, 9600}},
	} {
		s := stream(t, c.f)
		wantFrames(t, "sound at once", pushed(t, s, made(c.n, wave)...), c.frames)
		wantTail(t, "behind it", s, api.Tail{Count: c.n, Last: c.last, Rest: c.rest})
	}
}

// P13.2: of each sample a part of the one ahead is taken off, rounded, of two as near to the greater one; the first one's is 0, and that goes on across two calls.
func TestFlattenedWrittenOut(t *testing.T) {
	for _, c := range []struct {
		pre           int
		samples, want []int
	}{
		{0, []int{5, -7, 32767, -32768}, []int{5, -7, 32767, -32768}},
		{16384, []int{7, 0, -7, 0, 5, 5}, []int{7, -4, -7, 3, 5, 2}},
		{1, []int{32767, 0, -32768, 0, 16384, 0, 16383, 0, -16384, 0, -16385, 0}, []int{32767, -1, -32768, 1, 16384, -1, 16383, 0, -16384, 0, -16385, 1}},
		{32767, []int{-32768, 32767, -32768, -32768, 32767, 32767}, []int{-32768, 65534, -65534, -1, 65534, 1}},
		{31130, []int{1000, 1000, -1000, 0}, []int{1000, 50, -1950, 950}},
	} {
		f := api.Front{Size: 16, Hop: 1, Bands: 4, Coefs: 1, Pre: c.pre}
		last := c.samples[len(c.samples)-1]
		for cut := range len(c.samples) + 1 {
			s := heard(t, f, c.samples[:cut]...)
			pushed(t, s, c.samples[cut:]...)
			wantTail(t, "samples cut in two", s, api.Tail{Count: len(c.samples), Last: last, Rest: c.want})
		}
		one := stream(t, f)
		for i, x := range c.samples {
			pushed(t, one, x)
			pushed(t, one)
			wantTail(t, "samples one by one", one, api.Tail{Count: i + 1, Last: x, Rest: c.want[:i+1]})
		}
	}
}

// P13.2: what is taken off goes on across calls behind a frame, too, where nothing may be needed still.
func TestFlattenedBehindAFrame(t *testing.T) {
	for _, pre := range []int{0, 16384, 32767} {
		f := api.Front{Size: 16, Hop: 16, Bands: 4, Coefs: 4, Pre: pre}
		s := heard(t, f, made(16, func(int) int { return 20000 })...)
		wantTail(t, "behind a frame", s, api.Tail{Count: 16, Last: 20000})
		pushed(t, s, 0)
		wantTail(t, "behind a frame, and a sample", s, api.Tail{Count: 17, Rest: []int{-halved(pre*20000, 15)}})
	}
}

// P13.2: samples at both ends are taken, wherever they stand.
func TestPushOfSamplesAtTheEnds(t *testing.T) {
	for _, f := range fronts() {
		for _, x := range []int{-32768, 32767, -32767, 32766} {
			for _, at := range []int{0, 1, f.Size / 2, f.Size, f.Size + f.Hop - 1} {
				sound := made(f.Size+f.Hop, slope)
				sound[at] = x
				s := stream(t, f)
				wantFrames(t, "a sample at an end", pushed(t, s, sound...), framesOf(f, sound))
				wantTail(t, "a sample at an end", s, tailOf(f, sound))
			}
		}
	}
}

// P13.2: of a row of which one is no sample nothing is taken, wherever it stands; the stream goes on as if it had not been.
func TestPushOfWhatIsNoSample(t *testing.T) {
	sound := made(40, wave)
	for _, ahead := range []int{0, 1, 15, 16, 25} {
		s := heard(t, small, sound[:ahead]...)
		for _, x := range noSamples {
			wantRefused(t, s, x)
			wantRefused(t, s, x, 1, 2)
			wantRefused(t, s, 1, x, 2)
			wantRefused(t, s, 1, 2, x)
			wantRefused(t, s, x, x)
			for _, at := range []int{0, 1, 20, 38, 39} {
				row := made(40, slope)
				row[at] = x
				wantRefused(t, s, row...)
			}
		}
		got := append(framesOf(small, sound[:ahead]), pushed(t, s, sound[ahead:]...)...)
		wantFrames(t, "behind what is no sample", got, framesOf(small, sound))
	}
}

// P13.2: just when a frame is whole it is told, once.
func TestFramesAreToldOnceTheyAreWhole(t *testing.T) {
	for _, f := range fronts() {
		sound := made(3*f.Size+1, wave)
		want, s := framesOf(f, sound), stream(t, f)
		for i, x := range sound {
			n := i + 1
			got := pushed(t, s, x)
			if n < f.Size || (n-f.Size)%f.Hop != 0 {
				wantFrames(t, "a sample by which no frame is whole", got, nil)
				continue
			}
			number := (n - f.Size) / f.Hop
			wantFrames(t, "a sample by which a frame is whole", got, want[number:number+1])
		}
	}
}

// P13.2: a new stream, and one that was reset, tells the same.
func TestReset(t *testing.T) {
	for _, f := range fronts() {
		sound := made(2*f.Size+3, wave)
		for _, ahead := range []int{0, 1, f.Size - 1, f.Size, f.Size + 1, 2*f.Size + 3} {
			s := heard(t, f, sound[:ahead]...)
			s.Reset()
			wantTail(t, "behind Reset", s, api.Tail{})
			s.Reset()
			wantFrames(t, "behind Reset", pushed(t, s, sound...), framesOf(f, sound))
			wantTail(t, "sound behind Reset", s, tailOf(f, sound))
		}
	}
}

// P13.3: ahead of any sample, behind each one, and behind frames.
func TestTail(t *testing.T) {
	for _, f := range fronts() {
		sound, s := made(2*f.Size+2, wave), stream(t, f)
		for n, x := range sound {
			wantTail(t, "behind some samples", s, tailOf(f, sound[:n]))
			if got := len(s.Tail().Rest); got != neededOf(f, n) {
				t.Errorf("%v: of %d samples %d are needed still, want %d", f, n, got, neededOf(f, n))
			}
			pushed(t, s, x)
		}
		all := heard(t, f, sound...)
		wantTail(t, "all sound at once", all, tailOf(f, sound))
	}
}

// P13.3: what is needed still, written out: of Size 16, and a Hop of 8, of 15 and 16.
func TestNeededWrittenOut(t *testing.T) {
	for _, c := range []struct{ hop, samples, want int }{
		{8, 0, 0}, {8, 1, 1}, {8, 15, 15}, {8, 16, 8}, {8, 23, 15}, {8, 24, 8}, {8, 31, 15}, {8, 32, 8},
		{16, 15, 15}, {16, 16, 0}, {16, 17, 1}, {16, 31, 15}, {16, 32, 0}, {16, 1 << 62, 0}, {16, 1<<62 - 1, 15},
		{15, 16, 1}, {15, 30, 15}, {15, 31, 1}, {1, 16, 15}, {1, 17, 15}, {1, 1 << 62, 15}, {8, 1 << 62, 8}, {8, 1<<62 - 1, 15},
		{7, 1 << 62, 11}, {15, 1 << 62, 4},
	} {
		f := api.Front{Size: 16, Hop: c.hop, Bands: 4, Coefs: 1, Pre: 0}
		if neededOf(f, c.samples) != c.want {
			t.Errorf("Hop %d, %d samples: %d, want %d", c.hop, c.samples, neededOf(f, c.samples), c.want)
		}
		s := stream(t, f)
		wantErr(t, "Set", s.Set(api.Tail{Count: c.samples, Rest: make([]int, c.want)}), api.OK)
		for n := range 18 {
			if n != c.want {
				wantNotSet(t, s, api.Tail{Count: c.samples, Rest: make([]int, n)})
			}
		}
	}
}

// P13.3: each Count that may be, with as many as are needed still of it; of one too few, and one too many, nothing is done.
func TestSetOfCounts(t *testing.T) {
	for _, f := range fronts() {
		s := heard(t, f, made(f.Size+1, slope)...)
		for _, count := range []int{1, 2, 15, 16, 17, 31, 32, 33, 63, 64, 65, 127, 128, 1000, 1<<31 - 1, 1 << 32, 1<<61 + 12345, 1<<62 - f.Hop, 1<<62 - 2, 1<<62 - 1, 1 << 62} {
			n := neededOf(f, count)
			tail := api.Tail{Count: count, Last: -32768, Rest: made(n, slope)}
			wantErr(t, "Set", s.Set(tail), api.OK)
			wantTail(t, "behind Set", s, tail)
			wantNotSet(t, s, api.Tail{Count: count, Last: 7, Rest: made(n+1, slope)})
			wantNotSet(t, s, api.Tail{Count: count, Last: 7, Rest: made(n+f.Hop, slope)})
			if n > 0 {
				wantNotSet(t, s, api.Tail{Count: count, Last: 7, Rest: made(n-1, slope)})
				wantNotSet(t, s, api.Tail{Count: count, Last: 7})
			}
		}
	}
}

// P13.3: a Count below 0, or above 2^62, may not be, whatever Rest has.
func TestSetOfWrongCounts(t *testing.T) {
	for _, f := range []api.Front{small, {Size: 16, Hop: 16, Bands: 4, Coefs: 1, Pre: 0}, {Size: 64, Hop: 64, Bands: 16, Coefs: 16, Pre: 9}, {Size: 32, Hop: 1, Bands: 4, Coefs: 1, Pre: 0}} {
		s := heard(t, f, made(21, wave)...)
		for _, count := range []int{-1, -2, -16, -64, -1 << 32, least, least + 1, least + 64, 1<<62 + 1, 1<<62 + 2, 1<<62 + 16, 1<<62 + 64, greatest - 63, greatest - 1, greatest} {
			for n := range 66 {
				wantNotSet(t, s, api.Tail{Count: count, Rest: make([]int, n)})
			}
		}
	}
}

// P13.3: a Last at both ends, and beyond them; with a Count of 0 it is 0.
func TestSetOfLasts(t *testing.T) {
	for _, f := range fronts() {
		s := heard(t, f, made(f.Size+1, slope)...)
		for _, x := range noSamples {
			wantNotSet(t, s, api.Tail{Count: 1, Last: x, Rest: []int{5}})
			wantNotSet(t, s, api.Tail{Last: x})
		}
		for _, x := range []int{-32768, -1, 1, 32767} {
			wantNotSet(t, s, api.Tail{Last: x})
			wantNotSet(t, s, api.Tail{Last: x, Rest: []int{x}})
		}
		for _, x := range []int{-32768, -32767, -1, 0, 1, 32766, 32767} {
			tail := api.Tail{Count: 1, Last: x, Rest: []int{5}}
			wantErr(t, "Set", s.Set(tail), api.OK)
			wantTail(t, "behind Set", s, tail)
			pushed(t, s, 100)
			wantTail(t, "behind Set, and a sample", s, api.Tail{Count: 2, Last: 100, Rest: []int{5, 100 - halved(f.Pre*x, 15)}})
		}
		wantNotSet(t, s, api.Tail{Rest: []int{0}})
		wantErr(t, "Set of no samples", s.Set(api.Tail{Rest: []int{}}), api.OK)
		wantTail(t, "behind Set of no samples", s, api.Tail{})
	}
}

// P13.3: numbers of Rest are from -65536 to 65536, at each place.
func TestSetOfRests(t *testing.T) {
	for _, f := range fronts() {
		s := heard(t, f, made(f.Size+1, slope)...)
		for at := range f.Size - 1 {
			tail := api.Tail{Count: f.Size - 1, Last: 3, Rest: made(f.Size-1, slope)}
			for _, x := range []int{-65537, 65537, -1 << 32, 1 << 32, 1<<32 + 5, least, greatest} {
				tail.Rest[at] = x
				wantNotSet(t, s, tail)
			}
			for _, x := range []int{-65536, 65536, -65535, 65535} {
				tail.Rest[at] = x
				wantErr(t, "Set", s.Set(tail), api.OK)
				wantTail(t, "behind Set", s, tail)
			}
			wantFrames(t, "behind Set", pushed(t, s, 77), [][]int{told(f, append(tail.Rest, 77-halved(f.Pre*3, 15)))})
		}
	}
}

// P13.3: a stream goes on where its samples are as many as a tail tells at most.
func TestPushBehindTheGreatestTail(t *testing.T) {
	for _, f := range fronts() {
		count := 1<<62 - f.Size
		rest := made(neededOf(f, count), slope)
		s := stream(t, f)
		wantErr(t, "Set", s.Set(api.Tail{Count: count, Last: 9, Rest: rest}), api.OK)
		sound := made(f.Size, wave)
		ys := flattened(f, slices.Concat([]int{9}, sound))[1:]
		ys = append(rest, ys...)
		var want [][]int
		for ; len(ys) >= f.Size; ys = ys[f.Hop:] {
			want = append(want, told(f, ys[:f.Size]))
		}
		wantFrames(t, "up to the greatest tail", pushed(t, s, sound...), want)
		wantTail(t, "the greatest tail", s, api.Tail{Count: 1 << 62, Last: sound[f.Size-1], Rest: ys})
		wantErr(t, "Set of the greatest tail", stream(t, f).Set(s.Tail()), api.OK)
		pushed(t, s, 1)
		if got := s.Count(); got != 1<<62+1 {
			t.Errorf("one more sample than the greatest tail: Count %d", got)
		}
	}
}

// far is from which place to the next one sound is cut: where frames are many, and wide, not at each, which would take long.
func far(f api.Front) int { return 1 + f.Size*f.Size/f.Hop/50 }

// P13.4: the same sound, cut in two anywhere, and by chance, also into empty parts, tells the same.
func TestCuts(t *testing.T) {
	for i, f := range append(fronts(), small) {
		sound := made(2*f.Size+i, wave)
		want := framesOf(f, sound)
		for cut := 0; cut <= len(sound); cut += far(f) {
			s := stream(t, f)
			got := append(pushed(t, s, sound[:cut]...), pushed(t, s, sound[cut:]...)...)
			wantFrames(t, "sound cut in two", got, want)
			wantTail(t, "sound cut in two", s, tailOf(f, sound))
		}
		next := chance(i, 0, 9)
		for range 3 {
			s, at := stream(t, f), 0
			var got [][]int
			for at < len(sound) {
				n := min(next(0)*next(0), len(sound)-at)
				got = append(got, pushed(t, s, sound[at:at+n]...)...)
				at += n
			}
			wantFrames(t, "sound cut anywhere", got, want)
			wantTail(t, "sound cut anywhere", s, tailOf(f, sound))
		}
	}
}

// P13.4: wherever a stream's tail is taken, another one, new or behind other sound, goes on as that.
func TestGoesOnAsAnother(t *testing.T) {
	for i, f := range append(fronts(), small) {
		sound := made(2*f.Size+5, chance(i, -32768, 32767))
		want := framesOf(f, sound)
		for cut := 0; cut <= len(sound); cut += far(f) {
			s := stream(t, f)
			ahead := pushed(t, s, sound[:cut]...)
			for _, other := range []*front.Stream{stream(t, f), heard(t, f, made(f.Size+cut, slope)...)} {
				wantErr(t, "Set", other.Set(s.Tail()), api.OK)
				wantTail(t, "behind Set", other, tailOf(f, sound[:cut]))
				wantFrames(t, "behind Set", slices.Concat(ahead, pushed(t, other, sound[cut:]...)), want)
				wantTail(t, "sound behind Set", other, tailOf(f, sound))
			}
			wantTail(t, "the stream whose tail it was", s, tailOf(f, sound[:cut]))
		}
	}
}

// P13.2, P1: long sound is taken at once.
func TestLongSound(t *testing.T) {
	f := api.Front{Size: 16, Hop: 16, Bands: 4, Coefs: 1, Pre: 30000}
	sound := made(1<<17+5, chance(1, -32768, 32767))
	s := stream(t, f)
	wantFrames(t, "long sound", pushed(t, s, sound...), framesOf(f, sound))
	wantTail(t, "long sound", s, tailOf(f, sound))
}

// P13.3: of a nil stream, and of one that New did not make, nothing.
func TestNoStream(t *testing.T) {
	for _, s := range []*front.Stream{nil, {}} {
		for _, samples := range [][]int{nil, {0}, made(100, wave), {99999}} {
			frames, err := s.Push(samples...)
			wantErr(t, "Push of no stream", err, api.ErrArg)
			wantFrames(t, "Push of no stream", frames, nil)
		}
		for _, tail := range []api.Tail{{}, {Count: 1, Last: 5, Rest: []int{5}}, {Count: -1}, {Count: 1 << 62}} {
			wantErr(t, "Set of no stream", s.Set(tail), api.ErrArg)
		}
		s.Reset()
		wantTail(t, "no stream", s, api.Tail{})
	}
}

// R3: samples that are handed in stay as they were, behind their end too, and a stream keeps none of their row.
func TestSamplesStayAsTheyWere(t *testing.T) {
	for _, n := range []int{0, 1, 15, 16, 17, 40} {
		row := made(n+30, wave)
		was := slices.Clone(row)
		s := heard(t, small, row[:n]...)
		wantRow(t, "samples that were handed in", row, was)
		clear(row)
		wantTail(t, "once the samples are others", s, tailOf(small, was[:n]))
		pushed(t, s, was[n:]...)
		wantRow(t, "samples of an earlier call", row, make([]int, n+30))
		wantTail(t, "once the samples are others, and more came", s, tailOf(small, was))
	}
}

// R3: frames that are told are the caller's own, and share nothing with each other.
func TestFramesAreTheCallersOwn(t *testing.T) {
	sound := made(60, wave)
	want := framesOf(small, sound)
	s := stream(t, small)
	got := pushed(t, s, sound[:34]...)
	for i := range got {
		wantFrames(t, "frames behind one that was changed", got[i:], want[i:len(got)])
		_ = append(got[i], 78, 79)
		clear(got[i])
	}
	_ = append(got, []int{80})
	clear(got)
	wantTail(t, "once frames were changed", s, tailOf(small, sound[:34]))
	wantFrames(t, "once frames were changed", pushed(t, s, sound[34:]...), want[len(got):])
}

// R3: a tail's Rest, told or set, is the caller's own, behind its end too.
func TestRestsAreTheCallersOwn(t *testing.T) {
	sound := made(60, wave)
	for _, cut := range []int{0, 1, 10, 16, 22, 30} {
		s, other := heard(t, small, sound[:cut]...), stream(t, small)
		tail, again := s.Tail(), s.Tail()
		// Room behind its end, which a stream that kept it would write to.
		given := append(make([]int, 0, 100), tail.Rest...)
		wantErr(t, "Set", other.Set(api.Tail{Count: tail.Count, Last: tail.Last, Rest: given}), api.OK)
		clear(tail.Rest)
		_ = append(tail.Rest, 78, 79)
		clear(given)
		for _, x := range []*front.Stream{s, other} {
			wantTail(t, "once a tail was changed", x, tailOf(small, sound[:cut]))
			pushed(t, x, sound[cut:]...)
			wantTail(t, "once a tail was changed, and more came", x, tailOf(small, sound))
		}
		wantRow(t, "a tail that was told once more", again.Rest, tailOf(small, sound[:cut]).Rest)
		wantRow(t, "a Rest that was handed in", given[:cap(given)], make([]int, 100))
	}
}

// R3: two streams share nothing, though one has the other's tail, or was copied from it.
func TestStreamsAreTheirOwn(t *testing.T) {
	sound, noise := made(50, wave), made(50, slope)
	for _, cut := range []int{1, 10, 15, 16, 21, 22, 27, 30} {
		a, b := heard(t, small, sound[:cut]...), stream(t, small)
		wantErr(t, "Set", b.Set(a.Tail()), api.OK)
		c := *a
		for i := range 20 {
			pushed(t, b, noise[i])
			pushed(t, &c, noise[i])
		}
		wantTail(t, "the one stream", a, tailOf(small, sound[:cut]))
		for _, x := range []*front.Stream{b, &c} {
			wantTail(t, "the other stream", x, tailOf(small, slices.Concat(sound[:cut], noise[:20])))
		}
		b.Reset()
		pushed(t, a, sound[cut:]...)
		wantTail(t, "the one stream, once the other one was reset", a, tailOf(small, sound))
	}
}
