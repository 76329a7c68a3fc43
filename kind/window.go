package kind

import (
	"slices"

	"earshot/api"
)

// window is which frames a node looks at. Kinds without windows have one too, of a single frame, so that they are counted as the others are.
type window struct{ size, step, gap, left, right int }

// windowOf is a node's.
func windowOf(n api.Node) window {
	switch n.Kind {
	case api.Smooth:
		n.Step, n.Gap, n.Left, n.Right = 1, 1, n.Size-1, 0
		fallthrough
	case api.Conv, api.Depth, api.Max, api.Mean:
		return window{n.Size, n.Step, n.Gap, n.Left, n.Right}
	}
	return window{size: 1, step: 1, gap: 1}
}

// span is how many frames lie from a window's first one to its last.
func (w window) span() int { return (w.size-1)*w.gap + 1 }

// until is how many windows end ahead of a frame.
func (w window) until(frame int) int {
	last := frame + w.left - w.span()
	if last < 0 || w.step < 1 {
		return 0
	}
	return last/w.step + 1
}

// Span is how many frames a window goes over, with those between that it does not look at.
func Span(n api.Node) int { return windowOf(n).span() }

// Step is how far one window lies behind the other.
func Step(n api.Node) int { return windowOf(n).step }

// Pads is how many frames are thought ahead of the first one, and behind the last.
func Pads(n api.Node) (left, right int) {
	w := windowOf(n)
	return w.left, w.right
}

// First is where window i begins.
func First(n api.Node, i int) int {
	w := windowOf(n)
	return i*w.step - w.left
}

// Count is how many frames a node has in all.
func Count(n api.Node, counts ...int) int {
	count := least(counts...)
	switch {
	case count == 0:
		return 0
	case n.Kind == api.Whole:
		return 1
	}
	w := windowOf(n)
	return w.until(count + w.right)
}

// Ready is how many frames a node has as long as more may come.
func Ready(n api.Node, counts ...int) int {
	count := least(counts...)
	if count == 0 || n.Kind == api.Whole {
		return 0
	}
	return windowOf(n).until(count)
}

// least is the least of counts, none of which is below 0; without counts it is 0.
func least(counts ...int) int {
	if len(counts) == 0 {
		return 0
	}
	return max(0, slices.Min(counts))
}
