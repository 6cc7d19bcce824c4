package tests

import (
	"fmt"
	"maps"
	"math"
	"reflect"
	"slices"
	"testing"

	"loop.example/g03311/impl"
)

// gates returns AND nodes, each with two of the literals.
func gates(lits ...int) []impl.And {
	var ands []impl.And
	for pair := range slices.Chunk(lits, 2) {
		ands = append(ands, impl.And{A: pair[0], B: pair[1]})
	}
	return ands
}

func flop(init int, in int) impl.Seq { return impl.Seq{Kind: 0, Init: init, In: []int{in}} }

func ram(init int, in ...int) impl.Seq { return impl.Seq{Kind: 1, Init: init, In: in} }

// edgesOf returns for each node of a net the nodes of its literals, which only an AND node has.
func edgesOf(n impl.Net) [][]int {
	edges := make([][]int, 1+n.Inputs+len(n.Seqs))
	for _, and := range n.Ands {
		edges = append(edges, []int{and.A / 2, and.B / 2})
	}
	return edges
}

func rootsOf(n impl.Net) []int {
	lists := [][]int{n.Outs}
	for _, s := range n.Seqs {
		lists = append(lists, s.In)
	}
	return slices.Concat(lists...)
}

// nodeCount is NodeCount by a sum of what there may be.
func nodeCount(n impl.Net) int {
	if !slices.Contains(upTo(21), n.Inputs) || len(n.Seqs) >= 13 || len(n.Ands) >= 301 || len(n.Outs) >= 17 {
		return 0
	}
	return len(edgesOf(n))
}

// netOk is NetOk by a list of the literals that there are before each AND node.
func netOk(n impl.Net) bool {
	if nodeCount(n) == 0 {
		return false
	}
	for _, s := range n.Seqs {
		isFlop := s.Kind == 0 && slices.Contains(upTo(2), s.Init) && len(s.In) == 1
		isRam := s.Kind == 1 && slices.Contains(upTo(32), s.Init) && len(s.In) == 4
		if !isFlop && !isRam {
			return false
		}
	}
	lits := upTo(2 * (1 + n.Inputs + len(n.Seqs)))
	for _, and := range n.Ands {
		if !slices.Contains(lits, and.A) || !slices.Contains(lits, and.B) {
			return false
		}
		lits = append(lits, len(lits), len(lits)+1)
	}
	for _, root := range rootsOf(n) {
		if !slices.Contains(lits, root) {
			return false
		}
	}
	return true
}

// levelsOf returns the levels of nodes: the lengths of the longest paths that begin there.
func levelsOf(edges [][]int) []int {
	levels := make([]int, len(edges))
	begins := slices.Repeat([]bool{true}, len(edges))
	for length := 1; slices.Contains(begins, true); length++ {
		longer := make([]bool, len(edges))
		for node, list := range edges {
			for _, other := range list {
				if begins[other] {
					longer[node], levels[node] = true, length
				}
			}
		}
		begins = longer
	}
	return levels
}

// coneOf returns the cone of a node by a search along the edges.
func coneOf(edges [][]int, node int) []int {
	if node < 0 || node >= len(edges) {
		return nil
	}
	found := map[int]bool{node: true}
	for queue := []int{node}; len(queue) > 0; queue = queue[1:] {
		for _, other := range edges[queue[0]] {
			if !found[other] {
				queue = append(queue, other)
			}
			found[other] = true
		}
	}
	return slices.Sorted(maps.Keys(found))
}

// checkNet checks what Chapter 8 says about a net, which need not be valid.
func checkNet(t *testing.T, what string, n impl.Net) {
	t.Helper()
	if got, want := impl.NodeCount(n), nodeCount(n); got != want {
		t.Errorf("%s: NodeCount = %d, want %d, of %v", what, got, want, n)
	}
	if !netOk(n) {
		checkInvalidNet(t, what, n)
		return
	}
	edges, roots := edgesOf(n), rootsOf(n)
	levels, depth, reached := levelsOf(edges), 0, make([]bool, len(edges))
	for _, root := range roots {
		depth = max(depth, levels[root/2])
		for _, node := range coneOf(edges, root/2) {
			reached[node] = true
		}
	}
	if !impl.NetOk(n) {
		t.Errorf("%s: NetOk is false for %v", what, n)
	}
	if got := impl.Roots(n); !slices.Equal(got, roots) {
		t.Errorf("%s: Roots = %v, want %v, of %v", what, got, roots, n)
	}
	if got := impl.Levels(n); !slices.Equal(got, levels) {
		t.Errorf("%s: Levels = %v, want %v, of %v", what, got, levels, n)
	}
	if got := impl.Depth(n); got != depth {
		t.Errorf("%s: Depth = %d, want %d, of %v", what, got, depth, n)
	}
	if got := impl.Reached(n); !slices.Equal(got, reached) {
		t.Errorf("%s: Reached = %v, want %v, of %v", what, got, reached, n)
	}
	for node := -1; node <= len(edges); node++ {
		if got, want := impl.Cone(n, node), coneOf(edges, node); !slices.Equal(got, want) {
			t.Errorf("%s: Cone of node %d = %v, want %v, of %v", what, node, got, want, n)
		}
	}
}

// checkInvalidNet checks all results for a net that is not valid, but the number of its nodes.
func checkInvalidNet(t *testing.T, what string, n impl.Net) {
	t.Helper()
	if impl.NetOk(n) {
		t.Errorf("%s: NetOk is true for %v", what, n)
	}
	roots, levels, depth, reached := impl.Roots(n), impl.Levels(n), impl.Depth(n), impl.Reached(n)
	if roots != nil || levels != nil || depth != -1 || reached != nil {
		t.Errorf("%s: Roots = %v, Levels = %v, Depth = %d and Reached = %v of %v", what, roots, levels, depth, reached, n)
	}
	for _, node := range append(upTo(12), math.MinInt64, -1, 332, 333, math.MaxInt64) {
		if got := impl.Cone(n, node); got != nil {
			t.Errorf("%s: Cone of node %d = %v of %v", what, node, got, n)
		}
	}
}

// checkGraphPromise checks that levels rise along the edges of a valid net, that its depth is that
// of the deepest root, and that exactly the cones of roots are reached, by the results alone.
func checkGraphPromise(t *testing.T, what string, n impl.Net) {
	t.Helper()
	levels, roots, reached := impl.Levels(n), impl.Roots(n), impl.Reached(n)
	if count := impl.NodeCount(n); !impl.NetOk(n) || len(levels) != count || len(reached) != count {
		t.Errorf("%s: %d levels and %d marks for the %d nodes of %v", what, len(levels), len(reached), count, n)
		return
	}
	for node, list := range edgesOf(n) {
		below := -1
		for _, other := range list {
			below = max(below, levels[other])
		}
		// The level is the least one that is above the levels of both literals.
		if levels[node] != below+1 {
			t.Errorf("%s: node %d has the level %d above the level %d, in %v", what, node, levels[node], below, n)
		}
	}
	depth, found := 0, make([]bool, len(reached))
	for _, root := range roots {
		depth = max(depth, levels[root/2])
		for _, node := range impl.Cone(n, root/2) {
			found[node] = true
		}
	}
	if got := impl.Depth(n); got != depth {
		t.Errorf("%s: Depth = %d, and the deepest root has %d, in %v", what, got, depth, n)
	}
	if !slices.Equal(reached, found) {
		t.Errorf("%s: Reached = %v, and the cones of roots have %v, in %v", what, reached, found, n)
	}
}

// checkValidNet checks a net that is known to be valid.
func checkValidNet(t *testing.T, what string, n impl.Net) {
	t.Helper()
	if !impl.NetOk(n) {
		t.Errorf("%s: NetOk is false for %v", what, n)
		return
	}
	checkNet(t, what, n)
	checkGraphPromise(t, what, n)
}

// checkOk checks whether a net is valid.
func checkOk(t *testing.T, what string, n impl.Net, want bool) {
	t.Helper()
	if got := impl.NetOk(n); got != want {
		t.Errorf("%s: NetOk = %v of %v", what, got, n)
	}
	checkNet(t, what, n)
}

// manyNumbers returns numbers around the limits of Chapter 8, and the ends of int.
func manyNumbers() []int {
	return slices.Concat(extremes(), upTo(40), []int{299, 300, 301, 333, 665, 666, 667, -31, -32})
}

func TestGraphConstants(t *testing.T) {
	got := [...]int{impl.MaxInputs, impl.MaxSeqs, impl.MaxAnds, impl.MaxOuts, impl.SeqFlop, impl.SeqRam}
	if got != [...]int{20, 12, 300, 16, 0, 1} {
		t.Error("the constants are", got)
	}
}

func TestSampleNet(t *testing.T) {
	n := impl.SampleNet()
	want := impl.Net{
		Inputs: 2,
		Seqs:   []impl.Seq{{Kind: 0, Init: 1, In: []int{9}}},
		Ands:   []impl.And{{A: 2, B: 6}},
		Outs:   []int{8, 7},
	}
	if !reflect.DeepEqual(n, want) {
		t.Error("SampleNet =", n)
	}
	if impl.NodeCount(n) != 5 || impl.Depth(n) != 1 || !slices.Equal(impl.Roots(n), []int{8, 7, 9}) || !slices.Equal(impl.Levels(n), []int{0, 0, 0, 0, 1}) {
		t.Error("NodeCount, Depth, Roots and Levels =", impl.NodeCount(n), impl.Depth(n), impl.Roots(n), impl.Levels(n))
	}
	if got := impl.Reached(n); !slices.Equal(got, []bool{false, true, false, true, true}) {
		t.Error("Reached =", got)
	}
	for node, want := range [][]int{{0}, {1}, {2}, {3}, {1, 3, 4}} {
		if got := impl.Cone(n, node); !slices.Equal(got, want) {
			t.Errorf("Cone of node %d = %v, want %v", node, got, want)
		}
	}
	checkValidNet(t, "sample", n)
	// A change of one result does not show in the next one.
	n.Seqs[0].In[0], n.Seqs[0].Init, n.Ands[0].A, n.Outs[0] = 5, 0, 4, 2
	if got := impl.SampleNet(); !reflect.DeepEqual(got, want) {
		t.Error("after a change of its result, SampleNet =", got)
	}
}

// netOfLengths returns a net with the given numbers of inputs, of flip-flops and memories in turn, of
// AND nodes and of outputs, which is valid if these numbers are.
func netOfLengths(inputs, seqs, ands, outs int) impl.Net {
	n := impl.Net{Inputs: inputs, Outs: make([]int, outs)}
	for i := range seqs {
		if i%2 == 0 {
			n.Seqs = append(n.Seqs, flop(i/2%2, i))
		} else {
			n.Seqs = append(n.Seqs, ram(31-i, 0, i, 1, i))
		}
	}
	for i := range ands {
		n.Ands = append(n.Ands, gates(2*i+1, 0)...)
	}
	return n
}

func TestNodeCount(t *testing.T) {
	cases := []struct {
		n    impl.Net
		want int
	}{
		{impl.Net{}, 1},
		{impl.Net{Inputs: 1}, 2},
		{impl.Net{Inputs: 19}, 20},
		{impl.Net{Inputs: 20}, 21},
		{impl.Net{Inputs: 21}, 0},
		{impl.Net{Inputs: -1}, 0},
		{impl.Net{Inputs: math.MinInt64}, 0},
		{impl.Net{Inputs: math.MaxInt64}, 0},
		{netOfLengths(0, 1, 0, 0), 2},
		{netOfLengths(0, 0, 1, 0), 2},
		{netOfLengths(0, 0, 0, 1), 1},
		{netOfLengths(3, 4, 5, 6), 13},
		{netOfLengths(0, 12, 0, 0), 13},
		{netOfLengths(0, 13, 0, 0), 0},
		{netOfLengths(0, 0, 300, 0), 301},
		{netOfLengths(0, 0, 301, 0), 0},
		{netOfLengths(0, 0, 0, 16), 1},
		{netOfLengths(0, 0, 0, 17), 0},
		{netOfLengths(20, 12, 300, 16), 333},
		{netOfLengths(21, 12, 300, 16), 0},
		{netOfLengths(20, 13, 300, 16), 0},
		{netOfLengths(20, 12, 301, 16), 0},
		{netOfLengths(20, 12, 300, 17), 0},
		{netOfLengths(-1, 1, 0, 0), 0},
		{netOfLengths(-2, 1, 1, 1), 0},
		{netOfLengths(-1, 12, 300, 16), 0},
	}
	for _, c := range cases {
		if got := impl.NodeCount(c.n); got != c.want {
			t.Errorf("NodeCount = %d, want %d, of %v", got, c.want, c.n)
		}
		checkOk(t, "a number of nodes", c.n, c.want > 0)
	}
	for _, inputs := range manyNumbers() {
		checkOk(t, "inputs", impl.Net{Inputs: inputs}, inputs >= 0 && inputs <= 20)
	}
	for count := range 400 {
		checkOk(t, "sequential elements", netOfLengths(1, count, 1, 1), count <= 12)
		checkOk(t, "AND nodes", netOfLengths(1, 1, count, 1), count <= 300)
		checkOk(t, "outputs", netOfLengths(1, 1, 1, count), count <= 16)
	}
}

// TestNodeCountDoesNotJudge checks that only the lengths count.
func TestNodeCountDoesNotJudge(t *testing.T) {
	n := impl.Net{
		Inputs: 2,
		Seqs:   []impl.Seq{{Kind: 7, Init: -1}, flop(0, math.MaxInt64), {In: make([]int, 1000)}},
		Ands:   gates(-1, math.MinInt64, 90, 90),
		Outs:   []int{-5, 1 << 40},
	}
	if got := impl.NodeCount(n); got != 8 {
		t.Error("NodeCount =", got)
	}
	checkOk(t, "nothing is right", n, false)
}

// TestNetOkSeqs checks sequential elements of all kinds, with all Init and lengths of In, alone and
// beside valid ones.
func TestNetOkSeqs(t *testing.T) {
	for _, kind := range manyNumbers() {
		for _, init := range manyNumbers() {
			for length := range 7 {
				s := impl.Seq{Kind: kind, Init: init, In: make([]int, length)}
				want := kind == 0 && (init == 0 || init == 1) && length == 1 || kind == 1 && init >= 0 && init <= 31 && length == 4
				for _, seqs := range [][]impl.Seq{{s}, {s, flop(1, 1)}, {ram(31, 0, 0, 0, 0), s}} {
					if got := impl.NetOk(impl.Net{Seqs: seqs}); got != want {
						t.Errorf("NetOk = %v with the sequential elements %v", got, seqs)
					}
				}
			}
		}
	}
	for _, init := range []int{-1, 0, 1, 2, 30, 31, 32, math.MinInt64, math.MaxInt64} {
		checkOk(t, "flip-flop", impl.Net{Seqs: []impl.Seq{flop(init, 2)}}, init == 0 || init == 1)
		checkOk(t, "memory", impl.Net{Seqs: []impl.Seq{ram(init, 2, 3, 0, 1)}}, init >= 0 && init <= 31)
	}
	for _, kind := range []int{-1, 2, 3, math.MinInt64, math.MaxInt64} {
		checkOk(t, "no kind", impl.Net{Seqs: []impl.Seq{{Kind: kind, In: []int{0}}}}, false)
		checkOk(t, "no kind", impl.Net{Seqs: []impl.Seq{{Kind: kind, In: []int{0, 0, 0, 0}}}}, false)
	}
	for length := range 1000 {
		checkOk(t, "flip-flop", impl.Net{Seqs: []impl.Seq{{Kind: 0, In: make([]int, length)}}}, length == 1)
		checkOk(t, "memory", impl.Net{Seqs: []impl.Seq{{Kind: 1, In: make([]int, length)}}}, length == 4)
	}
	checkOk(t, "nil as In", impl.Net{Seqs: []impl.Seq{{Kind: 0}}}, false)
	checkOk(t, "nil as In", impl.Net{Seqs: []impl.Seq{{Kind: 1}}}, false)
}

// TestNetOkRoots checks each number as each root of nets of which the last literals are known.
func TestNetOkRoots(t *testing.T) {
	cases := []struct {
		n    impl.Net
		last int
	}{
		{impl.Net{Outs: []int{0}}, 1},
		{impl.Net{Inputs: 1, Outs: []int{0, 1, 2, 3}}, 3},
		{impl.Net{Seqs: []impl.Seq{flop(0, 0)}}, 3},
		{impl.Net{Seqs: []impl.Seq{ram(0, 0, 1, 2, 3)}}, 3},
		{impl.Net{Ands: gates(0, 0), Outs: []int{0, 0}}, 3},
		{impl.Net{Inputs: 3, Seqs: []impl.Seq{ram(9, 12, 13, 14, 15), flop(1, 14), ram(8, 1, 1, 1, 1)}, Ands: gates(0, 9), Outs: []int{15, 7, 0}}, 15},
		{netOfLengths(20, 12, 300, 16), 665},
	}
	for _, c := range cases {
		checkValidNet(t, "roots", c.n)
		lists := [][]int{c.n.Outs}
		for _, s := range c.n.Seqs {
			lists = append(lists, s.In)
		}
		for _, list := range lists {
			for place, before := range list {
				for _, lit := range append(manyNumbers(), c.last-1, c.last, c.last+1, c.last+2) {
					list[place] = lit
					want := lit >= 0 && lit <= c.last
					if got := impl.NetOk(c.n); got != want {
						t.Errorf("NetOk = %v with the root %d of %v", got, lit, c.n)
					}
					if got := impl.Roots(c.n); want && !slices.Equal(got, rootsOf(c.n)) || !want && got != nil {
						t.Errorf("Roots = %v with the root %d of %v", got, lit, c.n)
					}
					if got := impl.Depth(c.n); !want && got != -1 {
						t.Errorf("Depth = %d with the root %d of %v", got, lit, c.n)
					}
				}
				for _, lit := range []int{-1, 0, c.last, c.last + 1} {
					list[place] = lit
					checkOk(t, "a root", c.n, lit == 0 || lit == c.last)
				}
				list[place] = before
			}
		}
	}
}

// TestNetOkAnds checks each number as A and B of each AND node of a net with seven other nodes.
func TestNetOkAnds(t *testing.T) {
	n := impl.Net{Inputs: 3, Seqs: []impl.Seq{flop(0, 0), ram(0, 0, 0, 0, 0), flop(0, 0)}, Ands: make([]impl.And, 6), Outs: []int{25}}
	for i := range n.Ands {
		// The last literal of the node before this one.
		last := 13 + 2*i
		for _, lit := range append(manyNumbers(), last, last+1, last+2, last+3) {
			want := lit >= 0 && lit <= last
			for _, and := range gates(lit, 0, 0, lit, lit, lit, lit, last, last, lit) {
				n.Ands[i] = and
				checkOk(t, fmt.Sprintf("AND node %d with %v", i, and), n, want)
			}
		}
		n.Ands[i] = impl.And{A: last, B: last - 1}
	}
	checkValidNet(t, "all AND nodes", n)
	first := impl.Net{Ands: gates(1, 1)}
	checkOk(t, "the first AND node, of a constant", first, true)
	for _, lit := range []int{-1, 2, 3, 4} {
		checkOk(t, "the first AND node, of itself or nothing", impl.Net{Ands: gates(lit, 1)}, false)
		checkOk(t, "the first AND node, of itself or nothing", impl.Net{Ands: gates(0, lit)}, false)
	}
	// A later node, and a node that is not before it.
	checkOk(t, "a later node", impl.Net{Inputs: 2, Ands: gates(2, 8, 2, 4)}, false)
	checkOk(t, "the last literal before", impl.Net{Inputs: 2, Ands: gates(5, 4, 7, 7, 9, 0)}, true)
}

func TestRoots(t *testing.T) {
	cases := []struct {
		n    impl.Net
		want []int
	}{
		{impl.Net{}, nil},
		{impl.Net{Inputs: 4, Ands: gates(2, 4)}, nil},
		{impl.Net{Inputs: 4, Outs: []int{9, 2, 9, 0}}, []int{9, 2, 9, 0}},
		{impl.Net{Seqs: []impl.Seq{flop(0, 3), flop(1, 1)}}, []int{3, 1}},
		{impl.Net{Seqs: []impl.Seq{ram(0, 4, 3, 2, 1), flop(1, 0), ram(0, 7, 6, 5, 1)}, Outs: []int{7, 1}}, []int{7, 1, 4, 3, 2, 1, 0, 7, 6, 5, 1}},
		{impl.Net{Seqs: []impl.Seq{flop(1, 5), ram(0, 0, 1, 2, 3)}, Outs: []int{4}}, []int{4, 5, 0, 1, 2, 3}},
	}
	for _, c := range cases {
		if got := impl.Roots(c.n); !slices.Equal(got, c.want) {
			t.Errorf("Roots = %v, want %v, of %v", got, c.want, c.n)
		}
		checkValidNet(t, "roots", c.n)
	}
}

func TestLevelsAndDepth(t *testing.T) {
	// Nodes 6 to 12 have the levels 1, 2, 3, 1, 3, 4 and 2; node 12 is 9 and an input.
	ands := gates(2, 5, 12, 3, 14, 10, 8, 8, 14, 0, 16, 12, 19, 6)
	n := impl.Net{Inputs: 3, Seqs: []impl.Seq{flop(0, 0), flop(0, 1)}, Ands: ands}
	if got, want := impl.Levels(n), []int{0, 0, 0, 0, 0, 0, 1, 2, 3, 1, 3, 4, 2}; !slices.Equal(got, want) {
		t.Errorf("Levels = %v, want %v", got, want)
	}
	checkValidNet(t, "only constants are roots", n)
	for lit := range 26 {
		level := []int{0, 0, 0, 0, 0, 0, 1, 2, 3, 1, 3, 4, 2}[lit/2]
		other := impl.Net{Inputs: 3, Seqs: []impl.Seq{flop(0, 0), flop(0, lit)}, Ands: ands}
		if got := impl.Depth(other); got != level {
			t.Errorf("Depth = %d where a flip-flop takes literal %d", got, lit)
		}
		checkValidNet(t, "a flip-flop takes it", other)
		for place := range 3 {
			n.Outs = []int{12, 13, 12}
			n.Outs[place] = lit
			if got := impl.Depth(n); got != max(1, level) {
				t.Errorf("Depth = %d with the outputs %v", got, n.Outs)
			}
			checkValidNet(t, "an output", n)
		}
		for place := range 4 {
			in := []int{0, 1, 2, 3}
			in[place] = lit
			other.Seqs = []impl.Seq{ram(0, in...), ram(0, 2, 2, 2, 2)}
			if got := impl.Depth(other); got != level {
				t.Errorf("Depth = %d where a memory takes %v", got, in)
			}
			checkValidNet(t, "a memory takes it", other)
		}
	}
}

func TestNetsWithoutAnds(t *testing.T) {
	for inputs := range 21 {
		for seqs := range 13 {
			n := netOfLengths(inputs, seqs, 0, 3)
			levels := impl.Levels(n)
			if len(levels) != 1+inputs+seqs || slices.Max(levels) != 0 || impl.Depth(n) != 0 {
				t.Errorf("Levels = %v and Depth = %d without AND nodes", levels, impl.Depth(n))
			}
			for node := range levels {
				if got := impl.Cone(n, node); !slices.Equal(got, []int{node}) {
					t.Errorf("Cone of node %d = %v without AND nodes", node, got)
				}
			}
			checkValidNet(t, "without AND nodes", n)
		}
	}
}

func TestNetsWithoutRoots(t *testing.T) {
	for _, n := range []impl.Net{{}, {Inputs: 20}, {Ands: gates(1, 1)}, {Inputs: 2, Ands: gates(2, 4, 6, 4, 8, 2, 10, 10)}, netOfLengths(20, 0, 300, 0)} {
		n.Outs = []int{}
		if got := impl.Depth(n); got != 0 {
			t.Errorf("Depth = %d without roots, of %v", got, n)
		}
		if got := impl.Roots(n); len(got) != 0 {
			t.Errorf("Roots = %v without roots, of %v", got, n)
		}
		if got := impl.Reached(n); len(got) != impl.NodeCount(n) || slices.Contains(got, true) {
			t.Errorf("Reached = %v without roots, of %v", got, n)
		}
		checkValidNet(t, "without roots", n)
		n.Outs = nil
		checkValidNet(t, "without roots", n)
	}
	// Without outputs, a net with a sequential element has a root.
	n := impl.Net{Inputs: 1, Seqs: []impl.Seq{flop(0, 6)}, Ands: gates(2, 5)}
	if got := impl.Depth(n); got != 1 {
		t.Error("Depth =", got)
	}
}

// smallNet returns a valid net with a flip-flop and a memory.
func smallNet() impl.Net {
	return impl.Net{Inputs: 2, Seqs: []impl.Seq{flop(1, 10), ram(7, 2, 4, 6, 8)}, Ands: gates(2, 6, 10, 8), Outs: []int{12, 7}}
}

// invalidNets returns one net for each way to be invalid, each of which has roots.
func invalidNets() map[string]impl.Net {
	changes := map[string]func(n *impl.Net){
		"no number of inputs":        func(n *impl.Net) { n.Inputs = -1 },
		"too many inputs":            func(n *impl.Net) { n.Inputs = 21 },
		"too few inputs":             func(n *impl.Net) { n.Inputs = 1 },
		"too many outputs":           func(n *impl.Net) { n.Outs = make([]int, 17) },
		"too many flip-flops":        func(n *impl.Net) { n.Seqs = slices.Repeat([]impl.Seq{flop(0, 0)}, 13) },
		"too many AND nodes":         func(n *impl.Net) { n.Ands = slices.Repeat(gates(2, 4), 301) },
		"no kind":                    func(n *impl.Net) { n.Seqs[0].Kind = -1 },
		"no kind of memory":          func(n *impl.Net) { n.Seqs[1].Kind = 2 },
		"a flip-flop with Init 2":    func(n *impl.Net) { n.Seqs[0].Init = 2 },
		"a memory with Init 32":      func(n *impl.Net) { n.Seqs[1].Init = 32 },
		"a flip-flop without In":     func(n *impl.Net) { n.Seqs[0].In = nil },
		"a memory with three in In":  func(n *impl.Net) { n.Seqs[1].In = []int{2, 4, 6} },
		"a flip-flop of a memory":    func(n *impl.Net) { n.Seqs[0].Kind = 1 },
		"a memory of a flip-flop":    func(n *impl.Net) { n.Seqs[1].Kind = 0 },
		"an output below 0":          func(n *impl.Net) { n.Outs[1] = -1 },
		"an output that is no node":  func(n *impl.Net) { n.Outs[0] = 14 },
		"an In below 0":              func(n *impl.Net) { n.Seqs[1].In[3] = math.MinInt64 },
		"an In that is no node":      func(n *impl.Net) { n.Seqs[0].In[0] = math.MaxInt64 },
		"an AND node below 0":        func(n *impl.Net) { n.Ands[1].B = -1 },
		"an AND node of itself":      func(n *impl.Net) { n.Ands[0].A = 10 },
		"an AND node of a later one": func(n *impl.Net) { n.Ands[0].B = 12 },
	}
	nets := map[string]impl.Net{}
	for what, change := range changes {
		n := smallNet()
		change(&n)
		nets[what] = n
	}
	return nets
}

func TestNetsThatAreNotValid(t *testing.T) {
	checkValidNet(t, "unchanged", smallNet())
	for what, n := range invalidNets() {
		if netOk(n) {
			t.Errorf("%s: %v is valid", what, n)
		}
		checkInvalidNet(t, what, n)
		checkNet(t, what, n)
	}
}

func TestCone(t *testing.T) {
	// Nodes 1 and 2 are inputs, 3 a flip-flop, 4 a memory and 5 to 10 AND nodes.
	n := impl.Net{
		Inputs: 2,
		Seqs:   []impl.Seq{flop(0, 20), ram(3, 11, 12, 14, 20)},
		Ands:   gates(2, 7, 10, 10, 4, 5, 0, 9, 13, 16, 18, 1),
		Outs:   []int{15},
	}
	cones := [][]int{{0}, {1}, {2}, {3}, {4}, {1, 3, 5}, {1, 3, 5, 6}, {2, 7}, {0, 4, 8}, {0, 1, 3, 4, 5, 6, 8, 9}, {0, 1, 3, 4, 5, 6, 8, 9, 10}}
	for node, want := range cones {
		if got := impl.Cone(n, node); !slices.Equal(got, want) {
			t.Errorf("Cone of node %d = %v, want %v", node, got, want)
		}
	}
	for _, node := range append(manyNumbers(), 11, 12, 21, 22) {
		if got := impl.Cone(n, node); node < 0 && got != nil || node >= len(cones) && got != nil {
			t.Errorf("Cone of node %d = %v", node, got)
		}
	}
	checkValidNet(t, "cones", n)
	if got := impl.Cone(impl.Net{}, 0); !slices.Equal(got, []int{0}) {
		t.Error("Cone of the only node =", got)
	}
	if got := impl.Cone(impl.Net{}, 1); got != nil {
		t.Error("Cone behind the only node =", got)
	}
}

// TestReached checks nets in which a node is reached in one way only, and nodes that no root reaches.
func TestReached(t *testing.T) {
	ands := gates(2, 4, 3, 6, 11, 6)
	cases := []struct {
		what string
		n    impl.Net
		want []int
	}{
		{"a constant", impl.Net{Inputs: 2, Ands: gates(2, 4), Outs: []int{1}}, []int{0}},
		{"an input", impl.Net{Inputs: 2, Ands: gates(2, 4), Outs: []int{5}}, []int{2}},
		{"an AND node below", impl.Net{Inputs: 3, Ands: ands, Outs: []int{13, 3}}, []int{1, 3, 5, 6}},
		{"an AND node of its own", impl.Net{Inputs: 3, Ands: ands, Outs: []int{8}}, []int{1, 2, 4}},
		{"a constant in an AND node", impl.Net{Inputs: 3, Ands: gates(7, 1), Outs: []int{8}}, []int{0, 3, 4}},
		{"an AND node of two equal literals", impl.Net{Inputs: 3, Ands: gates(4, 4, 2, 2), Outs: []int{8}}, []int{2, 4}},
		{"a flip-flop", impl.Net{Inputs: 1, Seqs: []impl.Seq{flop(0, 6)}, Ands: gates(2, 3)}, []int{1, 3}},
		{"a flip-flop of its own", impl.Net{Inputs: 1, Seqs: []impl.Seq{flop(0, 5)}, Ands: gates(2, 3)}, []int{2}},
		{"an address", impl.Net{Inputs: 1, Seqs: []impl.Seq{ram(0, 6, 0, 0, 0)}, Ands: gates(2, 3)}, []int{0, 1, 3}},
		{"an address", impl.Net{Inputs: 1, Seqs: []impl.Seq{ram(0, 0, 6, 0, 0)}, Ands: gates(2, 3)}, []int{0, 1, 3}},
		{"a data bit", impl.Net{Inputs: 1, Seqs: []impl.Seq{ram(0, 0, 0, 7, 0)}, Ands: gates(2, 3)}, []int{0, 1, 3}},
		{"a write bit", impl.Net{Inputs: 1, Seqs: []impl.Seq{ram(0, 0, 0, 0, 7)}, Ands: gates(2, 3)}, []int{0, 1, 3}},
		{"a later sequential element", impl.Net{Inputs: 1, Seqs: []impl.Seq{flop(0, 4), flop(1, 4), ram(1, 4, 4, 4, 3)}}, []int{1, 2}},
		{"what no root reaches", impl.Net{Inputs: 2, Ands: gates(2, 4, 6, 6, 8, 2), Outs: []int{6}}, []int{1, 2, 3}},
	}
	for _, c := range cases {
		var got []int
		for node, reached := range impl.Reached(c.n) {
			if reached {
				got = append(got, node)
			}
		}
		if !slices.Equal(got, c.want) {
			t.Errorf("%s: nodes %v are reached, want %v", c.what, got, c.want)
		}
		checkValidNet(t, c.what, c.n)
	}
}

// TestLongChains checks nets with very many paths and with the greatest depth.
func TestLongChains(t *testing.T) {
	for inputs := range 21 {
		n := impl.Net{Inputs: inputs, Outs: []int{0, 2*(inputs+300) + 1}}
		for i := range 300 {
			// One literal is of the last node, and the other one of it, too, or of the node before it.
			last := 2 * (inputs + i)
			n.Ands = append(n.Ands, gates(last+1, max(0, last-inputs%3))...)
		}
		levels := impl.Levels(n)
		for i := range 300 {
			if levels[inputs+1+i] != i+1 {
				t.Errorf("the level of AND node %d is %d", i, levels[inputs+1+i])
			}
		}
		if got := impl.Depth(n); got != 300 {
			t.Error("Depth =", got)
		}
		if got := len(impl.Cone(n, inputs+300)); got < 301 || got > 302 {
			t.Error("the cone of the last node has", got, "nodes")
		}
		checkValidNet(t, "a chain", n)
	}
}

// eachSmallNet calls visit with all nets of some shapes; the numbers of each one are counted up.
func eachSmallNet(visit func(n impl.Net)) {
	shapes := []struct {
		limits []int
		net    func(x []int) impl.Net
	}{
		{[]int{1, 1, 3, 3, 5, 5, 7}, func(x []int) impl.Net { return impl.Net{Ands: gates(x[:6]...), Outs: x[6:]} }},
		{[]int{3, 3, 5, 5, 7}, func(x []int) impl.Net { return impl.Net{Inputs: 1, Ands: gates(x[:4]...), Outs: x[4:]} }},
		{[]int{3, 3, 5, 5, 7, 7}, func(x []int) impl.Net {
			return impl.Net{Seqs: []impl.Seq{flop(0, x[5])}, Ands: gates(x[:4]...), Outs: x[4:5]}
		}},
		{[]int{3, 3, 5, 5, 5, 5}, func(x []int) impl.Net { return impl.Net{Seqs: []impl.Seq{ram(31, x[2:]...)}, Ands: gates(x[:2]...)} }},
	}
	for _, shape := range shapes {
		x := make([]int, len(shape.limits))
		for more := true; more; more = countUp(x, shape.limits) {
			visit(shape.net(x))
		}
	}
}

func TestAllSmallNets(t *testing.T) {
	eachSmallNet(func(n impl.Net) { checkValidNet(t, "a small net", n) })
}

// TestSmallNetsOfAnyLiterals checks nets with all literals from -1 to some that are too great.
func TestSmallNetsOfAnyLiterals(t *testing.T) {
	limits := slices.Repeat([]int{7}, 6)
	x := make([]int, len(limits))
	valid := 0
	for more := true; more; more = countUp(x, limits) {
		lits := slices.Clone(x)
		for i := range lits {
			lits[i]--
		}
		n := impl.Net{Seqs: []impl.Seq{flop(0, lits[4])}, Ands: gates(lits[:4]...), Outs: lits[5:]}
		want := slices.Min(lits) >= 0 && max(lits[0], lits[1]) <= 3 && max(lits[2], lits[3]) <= 5 && max(lits[4], lits[5]) <= 7
		if got := impl.NetOk(n); got != want {
			t.Errorf("NetOk = %v of %v", got, n)
		}
		valid += asNumber(want)
	}
	if valid != 4*4*6*6*7*7 {
		t.Error(valid, "nets are valid")
	}
}

// someNet returns a valid net with scattered literals; the greater near is, the nearer are those of
// an AND node to the node before it.
func someNet(inputs, seqs, ands, outs int, near int, pick func(n int) int) impl.Net {
	n := netOfLengths(inputs, seqs, ands, outs)
	for i := range n.Ands {
		end := 2 * (1 + inputs + seqs + i)
		n.Ands[i] = impl.And{A: end - 1 - pick(1+(end-1)/near), B: end - 1 - pick(1+(end-1)/near)}
	}
	end := 2 * (1 + inputs + seqs + ands)
	for i := range n.Outs {
		n.Outs[i] = pick(end)
	}
	for _, s := range n.Seqs {
		for i := range s.In {
			s.In[i] = pick(end)
		}
	}
	return n
}

func TestScatteredNets(t *testing.T) {
	pick := picker(8)
	unreached, deep := 0, 0
	for round := range 300 {
		n := someNet(pick(21), pick(13), pick(40), pick(17), 1+pick(6), pick)
		if round%30 == 0 {
			n = someNet(20, 12, 300, 16, 1+round/30, pick)
		}
		checkValidNet(t, "a scattered net", n)
		unreached += asNumber(slices.Contains(impl.Reached(n), false))
		deep += asNumber(impl.Depth(n) > 5)
	}
	if unreached < 100 || deep < 100 {
		t.Error("only", unreached, "nets with nodes that are not reached and", deep, "deep nets")
	}
}

// TestChangedNets changes one number or one length of a net at a time, or exchanges two elements.
func TestChangedNets(t *testing.T) {
	nets := []impl.Net{
		impl.SampleNet(),
		{Inputs: 3, Seqs: []impl.Seq{flop(1, 14), ram(30, 2, 13, 4, 16)}, Ands: gates(2, 5, 12, 9, 14, 10), Outs: []int{17, 1}},
		{Ands: gates(1, 0, 2, 3, 5, 0), Outs: []int{6, 7}},
		{Inputs: 20, Seqs: []impl.Seq{flop(0, 1)}},
	}
	valid, invalid := 0, 0
	for _, n := range nets {
		eachChange(n, manyNumbers(), func(what string, n impl.Net) {
			checkNet(t, what, n)
			if impl.NetOk(n) {
				checkGraphPromise(t, what, n)
				valid++
			} else {
				invalid++
			}
		})
	}
	if valid < 300 || invalid < 300 {
		t.Error("only", valid, "valid nets and", invalid, "others")
	}
}

// checkOwnNet checks that no function of Chapter 8 changes its argument or shares memory with it.
func checkOwnNet(t *testing.T, original impl.Net) {
	t.Helper()
	n := roomy(original)
	impl.NodeCount(n)
	impl.NetOk(n)
	impl.Depth(n)
	roots, levels, reached := impl.Roots(n), impl.Levels(n), impl.Reached(n)
	shared := []any{n, roots, levels, reached}
	for node := -1; node <= 1+n.Inputs%32+len(n.Seqs)+len(n.Ands); node++ {
		cone := impl.Cone(n, node)
		shared = append(shared, cone)
		clear(cone[:cap(cone)])
	}
	if sharesMemory(shared...) {
		t.Errorf("results share memory, for %v", original)
	}
	clear(roots[:cap(roots)])
	clear(levels[:cap(levels)])
	clear(reached[:cap(reached)])
	if !untouched(n, roomy(original)) {
		t.Errorf("%v was changed to %v", original, n)
	}
}

func TestGraphMemory(t *testing.T) {
	pick := picker(88)
	for range 50 {
		n := someNet(pick(21), pick(13), pick(20), pick(17), 1+pick(3), pick)
		checkOwnNet(t, n)
		n.Inputs++
		checkOwnNet(t, n)
		n.Outs = append(n.Outs, -1)
		checkOwnNet(t, n)
	}
	for _, n := range []impl.Net{{}, {Outs: []int{}}, {Outs: []int{1}}, {Inputs: math.MinInt64}, {Ands: gates(-1, 5)}, {Seqs: []impl.Seq{{Kind: 3}}}, impl.SampleNet()} {
		checkOwnNet(t, n)
	}
	// Parts of one argument may share memory; a result has its own.
	same := []int{2, 3, 2, 1}
	n := impl.Net{Seqs: []impl.Seq{ram(0, same...), ram(1, same...)}, Outs: same}
	n.Seqs[0].In, n.Seqs[1].In = same, same
	if got := impl.Roots(n); sharesMemory(same, got) || !slices.Equal(got, slices.Repeat([]int{2, 3, 2, 1}, 3)) {
		t.Error("Roots =", got)
	}
	if a, b := impl.SampleNet(), impl.SampleNet(); sharesMemory(a, b) || sharesMemory(impl.Roots(a), impl.Roots(a)) {
		t.Error("results of two calls share memory")
	}
	if !slices.Equal(same, []int{2, 3, 2, 1}) {
		t.Error("the argument was changed to", same)
	}
}
