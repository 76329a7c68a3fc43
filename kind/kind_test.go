package kind_test

import (
	"fmt"
	"math"
	"reflect"
	"slices"
	"testing"

	"earshot/api"
	"earshot/kind"
)

const (
	lowest  = math.MinInt
	highest = math.MaxInt
)

// kinds is how many there are.
const kinds = 12

// sample is a node that is right, of inputs so wide; and how wide its own frames are.
type sample struct {
	node   api.Node
	widths []int
	told   int
}

// samples are right nodes, one at least of each kind, and of each Post.
func samples() []sample {
	post := func(n api.Node, post int) api.Node {
		n.Post = post
		if post&api.PostScale != 0 {
			n.Mult, n.Shift = 300, 5
		}
		if post&api.PostClamp != 0 {
			n.Low, n.High = -7, 9
		}
		return n
	}
	conv := api.Node{Kind: 1, In: []int{0}, Width: 2, Size: 3, Step: 2, Gap: 4, Left: 8, Right: 1, Weights: []int{1, -2, 3, 4, -128, 127, 7, 8, 9, 10, 11, 12}, Bias: []int{-5, 6}}
	depth := api.Node{Kind: 2, In: []int{3}, Size: 2, Step: 4, Gap: 1, Right: 1, Weights: []int{1, 2, 3, 4, 5, 6}, Bias: []int{0, 0, 1}}
	dense := api.Node{Kind: 6, In: []int{1}, Width: 3, Weights: []int{1, 2, 3, 4, 5, 6}, Bias: []int{7, 8, 9}}
	all := []sample{
		{api.Node{Kind: 3, In: []int{1}, Size: 3, Step: 2, Gap: 2, Left: 1, Right: 2}, []int{5}, 5},
		{api.Node{Kind: 4, In: []int{1}, Size: 1, Step: 1, Gap: 1}, []int{16}, 16},
		{api.Node{Kind: 5, In: []int{2}}, []int{4}, 4},
		{api.Node{Kind: 7, In: []int{1, 2}}, []int{6, 6}, 6},
		{api.Node{Kind: 7, In: []int{1, 2, 0, 1}}, []int{1, 1, 1, 1}, 1},
		{api.Node{Kind: 8, In: []int{1, 2, 3}}, []int{6, 1, 2}, 9},
		{api.Node{Kind: 9, In: []int{1}, Low: -3, High: 8}, []int{7}, 7},
		{api.Node{Kind: 10, In: []int{1}, Mult: 3, Shift: 1}, []int{8}, 8},
		{api.Node{Kind: 11, In: []int{1}}, []int{9}, 1},
		{api.Node{Kind: 12, In: []int{1}, Size: 4}, []int{2}, 2},
	}
	for p := range 4 {
		all = append(all, sample{post(conv, p), []int{2}, 2}, sample{post(depth, p), []int{3}, 3}, sample{post(dense, p), []int{2}, 3})
	}
	return all
}

// of is the first sample of a kind.
func of(k int) sample {
	all := samples()
	return all[slices.IndexFunc(all, func(s sample) bool { return s.node.Kind == k })]
}

// fields are a node's numbers, by their names.
var fields = []string{"Width", "Size", "Step", "Gap", "Left", "Right", "Mult", "Shift", "Low", "High", "Post"}

// with is a node with another number, or one more of a row.
func with(n api.Node, field string, x int) api.Node {
	v := reflect.ValueOf(&n).Elem().FieldByName(field)
	if v.Kind() == reflect.Slice {
		v.Set(reflect.ValueOf(append(slices.Clone(v.Interface().([]int)), x)))
		return n
	}
	v.SetInt(int64(x))
	return n
}

// have is what the document says that kinds have.
var have = [...][]string{
	api.Conv:   {"Width", "Size", "Step", "Gap", "Left", "Right", "Weights", "Bias", "Post"},
	api.Depth:  {"Size", "Step", "Gap", "Left", "Right", "Weights", "Bias", "Post"},
	api.Max:    {"Size", "Step", "Gap", "Left", "Right"},
	api.Mean:   {"Size", "Step", "Gap", "Left", "Right"},
	api.Whole:  {},
	api.Dense:  {"Width", "Weights", "Bias", "Post"},
	api.Add:    {},
	api.Join:   {},
	api.Clamp:  {"Low", "High"},
	api.Scale:  {"Mult", "Shift"},
	api.Best:   {},
	api.Smooth: {"Size"},
}

// has tells whether a node has something, by its kind and its Post.
func has(n api.Node, field string) bool {
	post := slices.Contains(have[n.Kind], "Post")
	switch field {
	case "Mult", "Shift":
		if post && n.Post&api.PostScale != 0 {
			return true
		}
	case "Low", "High":
		if post && n.Post&api.PostClamp != 0 {
			return true
		}
	}
	return slices.Contains(have[n.Kind], field)
}

// check holds Check, and Width, against what is wanted: with an error there is no width.
func check(t *testing.T, want api.Errno, width int, n api.Node, widths ...int) {
	t.Helper()
	if got := kind.Check(n, widths...); got != want {
		t.Errorf("Check(%+v, %v) = %d, want %d", n, widths, got, want)
	}
	if want != api.OK {
		width = 0
	}
	if got := kind.Width(n, widths...); got != width {
		t.Errorf("Width(%+v, %v) = %d, want %d", n, widths, got, width)
	}
}

// P14.1: nodes that are right, and how wide their frames are.
func TestRight(t *testing.T) {
	seen := map[int]bool{}
	for _, s := range samples() {
		seen[s.node.Kind] = true
		check(t, api.OK, s.told, s.node, s.widths...)
	}
	for k := 1; k <= kinds; k++ {
		if !seen[k] {
			t.Errorf("no sample of kind %d", k)
		}
	}
}

// P14.1: kinds that there are not, whatever else the node is.
func TestNoKind(t *testing.T) {
	for _, k := range []int{lowest, math.MinInt32, -13, -12, -1, 0, 13, 14, 100, 1 << 32, 1<<32 + 5, highest} {
		check(t, api.ErrKind, 0, api.Node{Kind: k, In: []int{0}}, 1)
		check(t, api.ErrKind, 0, api.Node{Kind: k})
		for _, s := range samples() {
			check(t, api.ErrKind, 0, with(s.node, "Kind", k), s.widths...)
		}
	}
}

// P14.1: widths are as many as In, whatever the kind, and ahead of all else.
func TestWidthsCounted(t *testing.T) {
	for _, s := range samples() {
		for _, k := range []int{s.node.Kind, 0, 13, lowest, highest} {
			n := with(s.node, "Kind", k)
			check(t, api.ErrArg, 0, n, append([]int{1}, s.widths...)...)
			check(t, api.ErrArg, 0, n, s.widths[1:]...)
			check(t, api.ErrArg, 0, n)
			n.In = nil
			check(t, api.ErrArg, 0, n, s.widths...)
		}
	}
	check(t, api.ErrArg, 0, api.Node{}, 1)
	check(t, api.ErrKind, 0, api.Node{})
}

// P14.1: each width is from 1 to 16, ahead of all else.
func TestWidthsMayBe(t *testing.T) {
	for _, s := range samples() {
		for i := range s.widths {
			for _, x := range []int{lowest, -1, 0, 17, 1<<32 + 1, highest} {
				widths := slices.Clone(s.widths)
				widths[i] = x
				check(t, api.ErrArg, 0, s.node, widths...)
				check(t, api.ErrArg, 0, with(s.node, "Kind", 13), widths...)
				check(t, api.ErrArg, 0, with(s.node, "Mult", -1), widths...)
			}
		}
	}
	for k := range kinds + 1 {
		n := with(of(max(k, 1)).node, "Kind", k)
		n.In = []int{0}
		for _, x := range []int{0, 17} {
			check(t, api.ErrArg, 0, n, x)
		}
	}
	whole := of(api.Whole).node
	check(t, api.OK, 1, whole, 1)
	check(t, api.OK, 16, whole, 16)
}

// P14.1: kinds have one input, but two to four of Add and Join.
func TestInputs(t *testing.T) {
	for k := 1; k <= kinds; k++ {
		n, many := of(k).node, k == api.Add || k == api.Join
		for inputs := range 8 {
			n.In = make([]int, inputs)
			widths := slices.Repeat([]int{of(k).widths[0]}, inputs)
			switch {
			case k == api.Join && inputs >= 2 && inputs <= 4:
				check(t, api.OK, inputs, n, slices.Repeat([]int{1}, inputs)...)
			case many && inputs >= 2 && inputs <= 4, !many && inputs == 1:
				check(t, api.OK, of(k).told, n, widths...)
			default:
				check(t, api.ErrKind, 0, n, widths...)
			}
		}
	}
}

// P14.1: which nodes the inputs are is not looked at.
func TestInputsAreAny(t *testing.T) {
	for _, s := range samples() {
		for _, x := range []int{lowest, -1, 0, 12, highest} {
			n := s.node
			n.In = slices.Repeat([]int{x}, len(n.In))
			check(t, api.OK, s.told, n, s.widths...)
		}
	}
}

// P14.1: Post is 0 to 3, of a kind that has it; of another one it is 0.
func TestPost(t *testing.T) {
	for k := 1; k <= kinds; k++ {
		s := of(k)
		post := slices.Contains(have[k], "Post")
		for _, p := range []int{lowest, -4, -3, -2, -1, 0, 1, 2, 3, 4, 5, 7, 1 << 32, 1<<32 + 1, highest} {
			want := api.OK
			if p < 0 || p > 3 || p != 0 && !post {
				want = api.ErrKind
			}
			check(t, want, s.told, with(s.node, "Post", p), s.widths...)
		}
	}
}

// P14.1: nothing may be there that a kind, with that Post, has not: each put alone, and rows that are empty, or numbers that are 0, are none.
func TestHasNot(t *testing.T) {
	for _, s := range samples() {
		for _, field := range append([]string{"Weights", "Bias"}, fields...) {
			if field == "Post" || has(s.node, field) {
				continue
			}
			for _, x := range []int{lowest, -1, 1, 2, highest} {
				check(t, api.ErrKind, 0, with(s.node, field, x), s.widths...)
			}
			if field == "Weights" || field == "Bias" {
				check(t, api.ErrKind, 0, with(s.node, field, 0), s.widths...)
				continue
			}
			check(t, api.OK, s.told, with(s.node, field, 0), s.widths...)
		}
		if !has(s.node, "Weights") {
			n := s.node
			n.Weights, n.Bias = []int{}, []int{}
			check(t, api.OK, s.told, n, s.widths...)
		}
	}
}

// P14.1: what comes with a Post alone: Mult, Shift, Low, High.
func TestPostHas(t *testing.T) {
	for _, k := range []int{api.Conv, api.Depth, api.Dense} {
		for _, field := range []string{"Mult", "Shift", "High"} {
			for p := range 4 {
				want := api.ErrKind
				if field == "High" && p >= 2 || field != "High" && p%2 == 1 {
					want = api.OK
				}
				check(t, want, of(k).told, with(with(of(k).node, "Post", p), field, 1), of(k).widths...)
			}
		}
	}
}

// end is within which ends a number may be.
type end struct {
	field     string
	low, high int
}

// ends of a node's numbers, as the document says.
func ends(n api.Node) []end {
	span := (n.Size-1)*n.Gap + 1
	return []end{
		{"Width", 1, 16}, {"Size", 1, 8}, {"Step", 1, 4}, {"Gap", 1, 4}, {"Left", 0, span - 1}, {"Right", 0, span - 1},
		{"Mult", 0, 32767}, {"Shift", 0, 30}, {"Low", -1 << 31, 1<<31 - 1}, {"High", -1 << 31, 1<<31 - 1},
	}
}

// fit is a node whose rows are as many as it has, and whose pads and ends are none.
func fit(n api.Node, width int) api.Node {
	switch n.Kind {
	case api.Conv:
		n.Weights, n.Bias = make([]int, n.Width*n.Size*width), make([]int, n.Width)
	case api.Depth:
		n.Weights, n.Bias = make([]int, width*n.Size), make([]int, width)
	case api.Dense:
		n.Weights, n.Bias = make([]int, n.Width*width), make([]int, n.Width)
	}
	return n
}

// room is a node whose other numbers leave all room to one of them.
func room(n api.Node, field string) api.Node {
	if has(n, "Left") && field != "Left" && field != "Right" {
		n.Left, n.Right = 0, 0
	}
	switch {
	case field == "Low" && has(n, "High"):
		n.High = 1<<31 - 1
	case field == "High" && has(n, "Low"):
		n.Low = -1 << 31
	}
	return n
}

// P14.1: each number that a node has, at both its ends, and one beyond.
func TestEnds(t *testing.T) {
	for _, s := range samples() {
		for _, e := range ends(s.node) {
			if !has(s.node, e.field) {
				continue
			}
			for _, x := range []int{e.low, e.high} {
				n := fit(with(room(s.node, e.field), e.field, x), s.widths[0])
				told := s.told
				if e.field == "Width" {
					told = x
				}
				check(t, api.OK, told, n, s.widths...)
			}
			for _, x := range []int{lowest, e.low - 1, e.high + 1, 1<<32 + e.low, highest} {
				n := with(room(s.node, e.field), e.field, x)
				check(t, api.ErrSize, 0, n, s.widths...)
				if x == e.low-1 || x == e.high+1 {
					check(t, api.ErrSize, 0, fit(n, s.widths[0]), s.widths...)
				}
			}
		}
	}
}

// P14.1: each weight is from -128 to 127, each of Bias from -2^24 to 2^24, at each place.
func TestRowsMayBe(t *testing.T) {
	put := func(row []int, i, x int) []int {
		row = slices.Clone(row)
		row[i] = x
		return row
	}
	for _, s := range samples() {
		for i := range s.node.Weights {
			for _, x := range []int{lowest, -129, -128, 127, 128, 1 << 32, highest} {
				n := s.node
				n.Weights = put(n.Weights, i, x)
				want := api.ErrSize
				if x == -128 || x == 127 {
					want = api.OK
				}
				check(t, want, s.told, n, s.widths...)
			}
		}
		for i := range s.node.Bias {
			for _, x := range []int{lowest, -1<<24 - 1, -1 << 24, 1 << 24, 1<<24 + 1, 1 << 32, highest} {
				n := s.node
				n.Bias = put(n.Bias, i, x)
				want := api.ErrSize
				if x == -1<<24 || x == 1<<24 {
					want = api.OK
				}
				check(t, want, s.told, n, s.widths...)
			}
		}
	}
}

// P14.1: Low is not above High.
func TestLowHigh(t *testing.T) {
	for _, s := range samples() {
		if !has(s.node, "Low") {
			continue
		}
		for _, x := range []int{-1 << 31, -1, 0, 1, 1<<31 - 1} {
			check(t, api.OK, s.told, with(with(s.node, "Low", x), "High", x), s.widths...)
			if x > -1<<31 {
				check(t, api.ErrSize, 0, with(with(s.node, "Low", x), "High", x-1), s.widths...)
				check(t, api.ErrSize, 0, with(with(s.node, "Low", x), "High", -1<<31), s.widths...)
				check(t, api.OK, s.told, with(with(s.node, "Low", x-1), "High", x), s.widths...)
			}
		}
	}
}

// P14.1: Weights and Bias are as many as the document says, of each two widths; of one too few or too many there is ErrSize.
func TestRowsAreAsMany(t *testing.T) {
	for _, k := range []int{api.Conv, api.Depth, api.Dense} {
		for width := 1; width <= 16; width++ {
			for told := 1; told <= 16; told++ {
				for _, size := range []int{1, 2, 8} {
					n := of(k).node
					if k != api.Depth {
						n.Width = told
					}
					if k != api.Dense {
						n.Size = size
						n.Left, n.Right = 0, 0
					}
					rows(t, fit(n, width), width)
				}
			}
		}
	}
}

// rows holds a node whose rows are just as many against others.
func rows(t *testing.T, n api.Node, width int) {
	t.Helper()
	told := n.Width
	if n.Kind == api.Depth {
		told = width
	}
	check(t, api.OK, told, n, width)
	less := n
	less.Weights = n.Weights[1:]
	check(t, api.ErrSize, 0, less, width)
	less = n
	less.Bias = n.Bias[1:]
	check(t, api.ErrSize, 0, less, width)
	check(t, api.ErrSize, 0, with(n, "Weights", 0), width)
	check(t, api.ErrSize, 0, with(n, "Bias", 0), width)
	less.Weights, less.Bias = nil, nil
	check(t, api.ErrSize, 0, less, width)
}

// P14.1: the first of several errors, one taken away after the other.
func TestFirstError(t *testing.T) {
	for _, k := range []int{api.Add, api.Join} {
		n := api.Node{Kind: k, In: []int{0, 0, 0, 0, 0}, Width: 17, Mult: -1, Low: 3, Bias: []int{1 << 30}, Post: 9}
		check(t, api.ErrArg, 0, n, 9, 10, 11, 12)
		check(t, api.ErrArg, 0, n, 9, 10, 11, 12, 17)
		check(t, api.ErrKind, 0, n, 9, 10, 11, 12, 13)
		n.In = n.In[:4]
		check(t, api.ErrKind, 0, n, 9, 10, 11, 12)
		n = api.Node{Kind: k, In: n.In}
		check(t, api.ErrWidth, 0, n, 9, 10, 11, 12)
		check(t, api.ErrKind, 0, with(n, "Post", 4), 9, 10, 11, 12)
		check(t, api.ErrKind, 0, with(n, "High", -1), 9, 10, 11, 12)
	}
	conv := with(with(of(api.Conv).node, "Size", 9), "Mult", 40000)
	check(t, api.ErrArg, 0, conv, 0)
	check(t, api.ErrKind, 0, conv, 1)
	conv.Post = api.PostScale
	check(t, api.ErrSize, 0, conv, 2)
	conv.Size = 3
	check(t, api.ErrSize, 0, conv, 2)
	conv.Mult = 4
	check(t, api.OK, 2, conv, 2)
}

// P14.1: the widths of Add are the same; those of Join come to 16 at most.
func TestWidthsTogether(t *testing.T) {
	add, join := api.Node{Kind: api.Add}, api.Node{Kind: api.Join}
	for inputs := 2; inputs <= 4; inputs++ {
		add.In, join.In = make([]int, inputs), make([]int, inputs)
		for width := 1; width <= 16; width++ {
			same := slices.Repeat([]int{width}, inputs)
			check(t, api.OK, width, add, same...)
			for i := range same {
				other := slices.Clone(same)
				other[i] = width%16 + 1
				check(t, api.ErrWidth, 0, add, other...)
			}
		}
		for i := range join.In {
			widths := slices.Repeat([]int{1}, inputs)
			widths[i] = 17 - inputs
			check(t, api.OK, 16, join, widths...)
			widths[i]--
			check(t, api.OK, 15, join, widths...)
			widths[i] += 2
			check(t, api.ErrWidth, 0, join, widths...)
			check(t, api.ErrWidth, 0, join, slices.Repeat([]int{16}, inputs)...)
		}
	}
	add.In, join.In = make([]int, 2), make([]int, 2)
	check(t, api.ErrWidth, 0, add, 3, 4)
	check(t, api.OK, 7, join, 3, 4)
}

// R3: what is handed in stays as it is.
func TestHandedIn(t *testing.T) {
	for _, s := range samples() {
		before := fmt.Sprintf("%#v", s)
		kind.Check(s.node, s.widths...)
		kind.Width(s.node, s.widths...)
		counts := []int{9, 3, 5}
		kind.Count(s.node, counts...)
		kind.Ready(s.node, counts...)
		kind.Span(s.node)
		kind.Step(s.node)
		kind.Pads(s.node)
		kind.First(s.node, 2)
		if after := fmt.Sprintf("%#v", s); after != before {
			t.Errorf("%s has become %s", before, after)
		}
		if !slices.Equal(counts, []int{9, 3, 5}) {
			t.Errorf("counts have become %v", counts)
		}
	}
}
