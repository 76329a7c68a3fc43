package kind_test

import (
	"math/big"
	"testing"

	"earshot/api"
	"earshot/kind"
)

// windows tells whether a kind has windows that the node tells; those of Smooth follow from its Size.
func windows(k int) bool {
	return k == api.Conv || k == api.Depth || k == api.Max || k == api.Mean
}

// around is a number of any length, gone round at 64 bits.
func around(x *big.Int) int {
	low := new(big.Int).And(x, new(big.Int).SetUint64(1<<64-1))
	return int(low.Uint64())
}

// spanOf, stepOf, padsOf and firstOf are P14.2's words.
func spanOf(n api.Node) int {
	gap := n.Gap
	switch {
	case n.Kind == api.Smooth:
		gap = 1
	case !windows(n.Kind):
		return 1
	}
	x := new(big.Int).Sub(big.NewInt(int64(n.Size)), big.NewInt(1))
	x.Mul(x, big.NewInt(int64(gap)))
	return around(x.Add(x, big.NewInt(1)))
}

func stepOf(n api.Node) int {
	if windows(n.Kind) {
		return n.Step
	}
	return 1
}

func padsOf(n api.Node) (left, right int) {
	switch {
	case n.Kind == api.Smooth:
		return around(new(big.Int).Sub(big.NewInt(int64(n.Size)), big.NewInt(1))), 0
	case windows(n.Kind):
		return n.Left, n.Right
	}
	return 0, 0
}

func firstOf(n api.Node, i int) int {
	left, _ := padsOf(n)
	x := new(big.Int).Mul(big.NewInt(int64(i)), big.NewInt(int64(stepOf(n))))
	return around(x.Sub(x, big.NewInt(int64(left))))
}

// looks holds a node's window against the words.
func looks(t *testing.T, n api.Node) {
	t.Helper()
	if got, want := kind.Span(n), spanOf(n); got != want {
		t.Errorf("Span(%+v) = %d, want %d", n, got, want)
	}
	if got, want := kind.Step(n), stepOf(n); got != want {
		t.Errorf("Step(%+v) = %d, want %d", n, got, want)
	}
	left, right := kind.Pads(n)
	if l, r := padsOf(n); left != l || right != r {
		t.Errorf("Pads(%+v) = %d, %d, want %d, %d", n, left, right, l, r)
	}
	for _, i := range []int{lowest, -3, -1, 0, 1, 2, 5, 1 << 62, highest} {
		if got, want := kind.First(n, i), firstOf(n, i); got != want {
			t.Errorf("First(%+v, %d) = %d, want %d", n, i, got, want)
		}
	}
}

// P14.2: windows, written out.
func TestWindowsWrittenOut(t *testing.T) {
	max := api.Node{Kind: api.Max, Size: 3, Step: 2, Gap: 2, Left: 1, Right: 2}
	tell := func(n api.Node, want [5]int) {
		t.Helper()
		left, right := kind.Pads(n)
		if got := [5]int{kind.Span(n), kind.Step(n), left, right, kind.First(n, 3)}; got != want {
			t.Errorf("of %+v: %d, want %d", n, got, want)
		}
	}
	for k := range kinds + 2 {
		n := max
		n.Kind = k
		switch k {
		case api.Conv, api.Depth, api.Max, api.Mean:
			tell(n, [5]int{5, 2, 1, 2, 5})
		case api.Smooth:
			tell(n, [5]int{3, 1, 2, 0, 1})
		default:
			tell(n, [5]int{1, 1, 0, 0, 3})
		}
	}
	tell(api.Node{Kind: api.Smooth, Size: 8}, [5]int{8, 1, 7, 0, -4})
	tell(api.Node{Kind: api.Smooth, Size: 1}, [5]int{1, 1, 0, 0, 3})
	tell(api.Node{Kind: api.Conv, Size: 8, Step: 4, Gap: 4, Left: 28, Right: 28}, [5]int{29, 4, 28, 28, -16})
	tell(api.Node{Kind: api.Smooth}, [5]int{0, 1, -1, 0, 4})
}

// P14.2: of any n, products go round at 64 bits.
func TestWindowsOfAny(t *testing.T) {
	for k := -1; k <= kinds+1; k++ {
		looks(t, api.Node{Kind: k})
		for _, size := range []int{lowest, -1, 0, 1, 2, 8, 9, 1<<32 + 1, highest} {
			for _, gap := range []int{lowest, -1, 0, 1, 4, 1 << 32, highest} {
				looks(t, api.Node{Kind: k, Size: size, Gap: gap, Step: 1, Left: 2, Right: 3})
				looks(t, api.Node{Kind: k, Size: 2, Gap: 2, Step: size, Left: gap, Right: size})
				looks(t, api.Node{Kind: k, Size: size, Gap: 3, Step: size, Left: size, Right: gap})
			}
		}
	}
	for _, k := range []int{lowest, highest, 1<<32 + 3} {
		looks(t, api.Node{Kind: k, Size: 3, Step: 2, Gap: 2, Left: 1, Right: 2})
	}
}

// counted goes over windows one by one: as many as end ahead of a frame.
func counted(n api.Node, frame int) int {
	i := 0
	for firstOfRight(n, i)+(n.Size-1)*n.Gap < frame {
		i++
	}
	return i
}

func firstOfRight(n api.Node, i int) int { return i*n.Step - n.Left }

// numbers holds Count and Ready of so many frames against what is wanted.
func numbers(t *testing.T, n api.Node, count, ready int, counts ...int) {
	t.Helper()
	if got := kind.Count(n, counts...); got != count {
		t.Errorf("Count(%+v, %d) = %d, want %d", n, counts, got, count)
	}
	if got := kind.Ready(n, counts...); got != ready {
		t.Errorf("Ready(%+v, %d) = %d, want %d", n, counts, got, ready)
	}
}

// P14.3: the chapter's example, and others that are written out: pads to no side, the left, the right, and both.
func TestCountedWrittenOut(t *testing.T) {
	n := api.Node{Kind: api.Max, Size: 3, Step: 2, Gap: 2, Left: 1, Right: 2}
	numbers(t, n, 3, 2, 7)
	if kind.Span(n) != 5 || kind.First(n, 1) != 1 {
		t.Errorf("Span %d, First of 1 %d, want 5 and 1", kind.Span(n), kind.First(n, 1))
	}
	n = api.Node{Kind: api.Mean, Size: 3, Step: 1, Gap: 1}
	numbers(t, n, 0, 0, 2)
	numbers(t, n, 1, 1, 3)
	numbers(t, n, 4, 4, 6)
	n.Left = 2
	numbers(t, n, 1, 1, 1)
	numbers(t, n, 6, 6, 6)
	n.Left, n.Right = 0, 2
	numbers(t, n, 1, 0, 1)
	numbers(t, n, 2, 0, 2)
	numbers(t, n, 6, 4, 6)
	n.Left, n.Right = 1, 1
	numbers(t, n, 1, 0, 1)
	numbers(t, n, 3, 2, 3)
	n = api.Node{Kind: api.Depth, Size: 2, Step: 4, Gap: 4, Left: 4, Right: 4}
	numbers(t, n, 2, 1, 1)
	numbers(t, n, 2, 1, 4)
	numbers(t, n, 3, 2, 5)
	n = api.Node{Kind: api.Smooth, Size: 3}
	numbers(t, n, 1, 1, 1)
	numbers(t, n, 4, 4, 4)
	numbers(t, api.Node{Kind: api.Whole}, 1, 0, 1)
	numbers(t, api.Node{Kind: api.Whole}, 1, 0, 9)
	numbers(t, api.Node{Kind: api.Dense}, 9, 9, 9)
	numbers(t, api.Node{Kind: api.Add}, 3, 3, 5, 3)
}

// P14.3: of a count of 0, or below, and without counts there is none, of whatever kind and pads.
func TestNone(t *testing.T) {
	for k := -1; k <= kinds+1; k++ {
		for _, pads := range []int{0, 4, 100} {
			n := api.Node{Kind: k, Size: 3, Step: 1, Gap: 2, Left: pads, Right: pads}
			numbers(t, n, 0, 0)
			for _, x := range []int{lowest, -1 << 62, -5, -1, 0} {
				numbers(t, n, 0, 0, x)
				numbers(t, n, 0, 0, x, 7)
				numbers(t, n, 0, 0, 7, 8, x)
				numbers(t, n, 0, 0, 1<<62, x, 1)
			}
		}
	}
}

// P14.3: of more counts than one the least tells, wherever it stands, and however many they are.
func TestLeastTells(t *testing.T) {
	for k := -1; k <= kinds+1; k++ {
		n := api.Node{Kind: k, Size: 3, Step: 2, Gap: 1, Left: 1, Right: 2}
		for c := 1; c < 9; c++ {
			count, ready := kind.Count(n, c), kind.Ready(n, c)
			numbers(t, n, count, ready, c, c)
			numbers(t, n, count, ready, c, c+1)
			numbers(t, n, count, ready, c+5, c)
			numbers(t, n, count, ready, 9, c, 1<<62)
			numbers(t, n, count, ready, 1<<62, 10, 11, 12, 13, c)
		}
	}
}

// P14.3: kinds without windows, and such as there are not, have as many as the least of counts; Whole has one, once all are there.
func TestKindsWithoutWindows(t *testing.T) {
	for k := -1; k <= kinds+1; k++ {
		if windows(k) {
			continue
		}
		for _, n := range []api.Node{{Kind: k}, {Kind: k, Step: 3, Gap: -1, Left: 2, Right: 9}} {
			for _, c := range []int{1, 2, 3, 100, 1<<31 + 5, 1<<62 - 1, 1 << 62} {
				switch k {
				case api.Whole:
					numbers(t, n, 1, 0, c)
				case api.Smooth:
					n.Size = 5
					numbers(t, n, c, c, c)
				default:
					numbers(t, n, c, c, c)
				}
			}
		}
	}
}

// P14.3, P14.4: each window that may be, counted one by one; more frames never make fewer, and what is ready is counted, and stays so.
func TestEachWindow(t *testing.T) {
	for size := 1; size <= 8; size++ {
		for step := 1; step <= 4; step++ {
			for gap := 1; gap <= 4; gap++ {
				span := (size-1)*gap + 1
				for left := range span {
					for right := range span {
						each(t, api.Node{Kind: api.Max, Size: size, Step: step, Gap: gap, Left: left, Right: right})
					}
				}
			}
		}
	}
}

// each holds a window's counts of few frames against those that are counted one by one.
func each(t *testing.T, n api.Node) {
	t.Helper()
	count, ready := 0, 0
	for c := 1; c <= 10; c++ {
		was, ahead := count, ready
		count, ready = kind.Count(n, c), kind.Ready(n, c)
		if count != counted(n, c+n.Right) || ready != counted(n, c) {
			t.Fatalf("of %+v and %d: Count %d, Ready %d, want %d, %d", n, c, count, ready, counted(n, c+n.Right), counted(n, c))
		}
		if count < was || ready < ahead || ready > count || ahead > count {
			t.Fatalf("of %+v and %d: Count %d, Ready %d behind Count %d, Ready %d", n, c, count, ready, was, ahead)
		}
	}
}

// P14.3, P14.4: of each kind, and far counts too.
func TestFarCounts(t *testing.T) {
	for k := 1; k <= kinds; k++ {
		for _, s := range samples() {
			if s.node.Kind != k {
				continue
			}
			for _, c := range []int{1, 2, 30, 1<<31 - 1, 1<<31 + 3, 1<<62 - 2, 1<<62 - 1, 1 << 62} {
				count, ready := farCounts(s.node, c)
				numbers(t, s.node, count, ready, c)
			}
		}
	}
	numbers(t, api.Node{Kind: api.Conv, Size: 8, Step: 1, Gap: 4, Left: 28, Right: 28}, 1<<62+28, 1<<62, 1<<62)
	numbers(t, api.Node{Kind: api.Conv, Size: 8, Step: 4, Gap: 4}, 1<<60-7, 1<<60-7, 1<<62)
}

// farCounts are Count and Ready in numbers of any length: the greatest i whose window ends ahead, and one.
func farCounts(n api.Node, c int) (count, ready int) {
	if n.Kind == api.Whole {
		return 1, 0
	}
	left, right := padsOf(n)
	until := func(pad int) int {
		x := big.NewInt(int64(c))
		x.Add(x, big.NewInt(int64(pad+left-spanOf(n))))
		if x.Sign() < 0 {
			return 0
		}
		x.Div(x, big.NewInt(int64(stepOf(n))))
		return int(x.Int64()) + 1
	}
	return until(right), until(0)
}

// P1: no call panics, and each ends, whatever it is given.
func TestAnything(t *testing.T) {
	wild := []int{lowest, -1, 0, 1, highest}
	for _, k := range []int{lowest, -1, 0, 1, 2, 3, 4, 5, 6, 7, 8, 9, 10, 11, 12, 13, highest} {
		for i := range 5 * 5 * 5 * 5 * 5 {
			n := api.Node{Kind: k, Size: wild[i%5], Step: wild[i/5%5], Gap: wild[i/25%5], Left: wild[i/125%5], Right: wild[i/625]}
			for _, c := range wild {
				kind.Count(n, c)
				kind.Ready(n, c, highest)
				kind.First(n, c)
			}
			kind.Span(n)
			kind.Step(n)
			kind.Pads(n)
			n.In = make([]int, i%6)
			kind.Check(n, n.In...)
			kind.Width(n, 3)
			n.Post, n.Width, n.Mult, n.Shift, n.Low, n.High = n.Size, n.Step, n.Gap, n.Left, n.Right, n.Size
			n.Weights, n.Bias = make([]int, i%7), wild
			kind.Check(n, 3)
			kind.Check(n, 16, 16)
		}
	}
}
