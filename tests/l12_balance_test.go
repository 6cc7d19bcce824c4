package tests

import (
	"math"
	"reflect"
	"slices"
	"testing"

	"loop.example/g03311/impl"
)

// firstAnd returns the first AND node of a net, if it has one.
func firstAnd(n impl.Net) int { return 1 + n.Inputs + len(n.Seqs) }

// conjunctsOf returns the conjuncts of each AND node of a valid net, and nothing for the other nodes:
// those of a literal are the conjuncts of its node if it is even and an AND node has it, and else the
// literal alone.
func conjunctsOf(n impl.Net) [][]int {
	lists := make([][]int, firstAnd(n))
	for _, and := range n.Ands {
		var joined []int
		for _, lit := range []int{and.A, and.B} {
			if lit%2 == 0 && lit/2 >= firstAnd(n) {
				joined = append(joined, lists[lit/2]...)
			} else {
				joined = append(joined, lit)
			}
		}
		slices.Sort(joined)
		lists = append(lists, slices.Compact(joined))
	}
	return lists
}

// manyNodes returns all nodes of a net, and numbers that are not nodes of it.
func manyNodes(n impl.Net) []int {
	count := 1 + n.Inputs%32 + len(n.Seqs) + len(n.Ands)
	return append(upTo(max(count, 0)+3), math.MinInt64, math.MinInt64+1, -1<<32, -4, -3, -2, -1, 332, 333, 1<<32, math.MaxInt64-1, math.MaxInt64)
}

// checkConjuncts checks Conjuncts for any net.
func checkConjuncts(t *testing.T, what string, n impl.Net) {
	t.Helper()
	var lists [][]int
	if netOk(n) {
		lists = conjunctsOf(n)
	}
	for _, node := range manyNodes(n) {
		var want []int
		if node >= 0 && node < len(lists) {
			want = lists[node]
		}
		got := impl.Conjuncts(n, node)
		if !slices.Equal(got, want) || len(want) == 0 && got != nil {
			t.Errorf("%s: Conjuncts of node %d = %v, want %v, of %v", what, node, got, want, n)
		}
	}
}

// checkConjunctsInState checks by the results alone that each AND node has the value of the
// conjunction of its conjuncts, in one state.
func checkConjunctsInState(t *testing.T, what string, n impl.Net, st []int, in int) {
	t.Helper()
	values := impl.NodeValues(n, st, in)
	for node := firstAnd(n); node < len(values); node++ {
		want := 1
		for _, lit := range impl.Conjuncts(n, node) {
			want *= impl.LitValue(values, lit)
		}
		if values[node] != want {
			t.Errorf("%s: node %d has the value %d, and its conjuncts %v have %d, in %v", what, node, values[node], impl.Conjuncts(n, node), want, n)
		}
	}
}

// checkConjunctsForm checks that the conjuncts of each AND node of a valid net are in ascending order
// and cannot be replaced, and that the literals A and B are among them unless they are.
func checkConjunctsForm(t *testing.T, what string, n impl.Net) {
	t.Helper()
	isReplaced := func(lit int) bool { return lit%2 == 0 && lit/2 >= firstAnd(n) }
	for i, and := range n.Ands {
		node := firstAnd(n) + i
		list := impl.Conjuncts(n, node)
		ascending := slices.IsSorted(list) && len(slices.Compact(slices.Clone(list))) == len(list)
		if !ascending || len(list) == 0 || slices.ContainsFunc(list, isReplaced) {
			t.Errorf("%s: Conjuncts of node %d = %v of %v", what, node, list, n)
		}
		for _, lit := range []int{and.A, and.B} {
			below := []int{lit}
			if isReplaced(lit) {
				below = impl.Conjuncts(n, lit/2)
			}
			for _, other := range below {
				if !slices.Contains(list, other) {
					t.Errorf("%s: Conjuncts of node %d = %v without %d of %v", what, node, list, other, n)
				}
			}
		}
	}
}

// checkFreeValues checks that the conjunctions of a small net, all joined, are those of the conjuncts
// for all values that the other nodes could have, AND nodes among them.
func checkFreeValues(t *testing.T, what string, n impl.Net) {
	t.Helper()
	values := make([]int, nodeCount(n))
	limits := slices.Repeat([]int{1}, len(values)-1)
	var lists [][]int
	for node := range values {
		lists = append(lists, impl.Conjuncts(n, node))
	}
	for more := true; more; more = countUp(values[1:], limits) {
		joined := make([]int, len(values))
		for i, and := range n.Ands {
			node := firstAnd(n) + i
			joined[node] = 1
			for _, lit := range []int{and.A, and.B} {
				switch {
				case lit%2 == 1:
					joined[node] *= 1 - values[lit/2]
				case lit/2 >= firstAnd(n):
					joined[node] *= joined[lit/2]
				default:
					joined[node] *= values[lit/2]
				}
			}
			want := 1
			for _, lit := range lists[node] {
				want *= impl.LitValue(values, lit)
			}
			if joined[node] != want {
				t.Errorf("%s: node %d is %d, and the conjuncts %v are %d, for the values %v of %v", what, node, joined[node], lists[node], want, values, n)
			}
		}
	}
}

// forest is the balanced net of a hashed net, which grows by the rules of the document, one by one,
// and how often each special case was met.
type forest struct {
	hash, net impl.Net
	copies    map[int]int
	met       map[string]int
}

// plant returns a forest without trees.
func plant(hash impl.Net) forest {
	f := forest{hash: hash, net: roomy(hash), copies: map[int]int{}, met: map[string]int{}}
	f.net.Ands, f.net.Outs = nil, nil
	for _, s := range f.net.Seqs {
		clear(s.In)
	}
	for node := range firstAnd(hash) {
		f.copies[node] = 2 * node
	}
	return f
}

// copyOf returns the copy of a literal.
func (f *forest) copyOf(lit int) int {
	if lit%2 == 1 {
		return opposite(f.copies[lit/2])
	}
	return f.copies[lit/2]
}

// inOrder returns a list by levels and then by literals, with each literal once.
func (f *forest) inOrder(list []int) []int {
	levels := levelsOf(edgesOf(f.net))
	var result []int
	for level := range slices.Max(levels) + 1 {
		for _, lit := range slices.Sorted(slices.Values(list)) {
			if levels[lit/2] == level && !slices.Contains(result, lit) {
				result = append(result, lit)
			}
		}
	}
	return result
}

// addTree adds the tree of an AND node and reports whether all its AND nodes fit.
func (f *forest) addTree(node int, conjuncts []int) bool {
	var list []int
	for _, lit := range conjuncts {
		list = append(list, f.copyOf(lit))
	}
	list = f.inOrder(list)
	f.note("a list with one element", len(list) == 1)
	f.note("equal literals", len(list) < len(conjuncts))
	f.note("a literal 1", list[0] == 1)
	f.note("a literal 0", list[0] == 0)
	for len(list) > 1 {
		ands := len(f.net.Ands)
		net, lit := addAnd(f.net, list[0], list[1])
		if lit == -1 {
			return false
		}
		f.note("a constant is added", lit == 0)
		f.note("an AND node is there already", lit/2 < nodeCount(f.net) && lit/2 >= firstAnd(net) && len(net.Ands) == ands)
		f.note("the list has it", slices.Contains(list[2:], lit))
		f.net, list = net, f.put(net, append(list[2:], lit))
	}
	f.copies[node] = list[0]
	return true
}

// put returns a list of literals of a net in order; the literals before the last one are in order.
func (f *forest) put(n impl.Net, list []int) []int {
	f.net = n
	result := f.inOrder(list)
	last := list[len(list)-1]
	f.note("it becomes the first", len(result) > 1 && result[0] == last)
	f.note("it becomes the last", len(result) > 1 && result[len(result)-1] == last)
	f.note("it comes in between", len(result) > 2 && slices.Contains(result[1:len(result)-1], last))
	f.note("levels and literals differ in order", !slices.IsSorted(result))
	return result
}

// note counts a special case if it is met.
func (f *forest) note(what string, holds bool) { f.met[what] += asNumber(holds) }

// neededOf returns the needed AND nodes of a net in ascending order, by a search from the roots.
func neededOf(n impl.Net, lists [][]int) []int {
	var needed []int
	for queue := rootsOf(n); len(queue) > 0; queue = queue[1:] {
		node := queue[0] / 2
		if node >= firstAnd(n) && !slices.Contains(needed, node) {
			needed = append(needed, node)
			queue = append(queue, lists[node]...)
		}
	}
	slices.Sort(needed)
	return needed
}

// balanced is Balance by a forest, and how often each special case was met.
func balanced(n impl.Net) (impl.Net, map[string]int) {
	if !netOk(n) {
		return impl.Net{}, nil
	}
	f := plant(hashed(n))
	lists := conjunctsOf(f.hash)
	needed := neededOf(f.hash, lists)
	f.note("a node is not needed", len(needed) < len(f.hash.Ands))
	for _, node := range needed {
		if !f.addTree(node, lists[node]) {
			f.note("an AND node does not fit", true)
			return f.hash, f.met
		}
	}
	ands := len(f.net.Ands)
	f.hash.Ands = nil
	result := withLiterals(f.hash, nil, f.copyOf)
	result.Ands = f.net.Ands
	result = swept(result)
	f.note("an added AND node is not reached", len(result.Ands) < ands)
	return result, f.met
}

// checkBalance checks Balance and Conjuncts for any net and returns how often each special case was
// met.
func checkBalance(t *testing.T, what string, n impl.Net) map[string]int {
	t.Helper()
	checkConjuncts(t, what, n)
	want, met := balanced(n)
	if got := impl.Balance(n); !sameNet(got, want) {
		t.Errorf("%s: Balance = %v, want %v, of %v", what, got, want, n)
	}
	return met
}

// sameLeaves reports whether two nets have the same inputs, sequential elements and numbers of
// outputs.
func sameLeaves(a impl.Net, b impl.Net) bool {
	sameSeq := func(a impl.Seq, b impl.Seq) bool {
		return a.Kind == b.Kind && a.Init == b.Init && len(a.In) == len(b.In)
	}
	return a.Inputs == b.Inputs && slices.EqualFunc(a.Seqs, b.Seqs, sameSeq) && len(a.Outs) == len(b.Outs)
}

// checkBalancing checks by the results alone that Balance keeps the runs and the steps of a valid
// net, that its result is hashed and never deeper, and the promise about conjuncts.
func checkBalancing(t *testing.T, what string, n impl.Net, ins []int, pick func(n int) int) {
	t.Helper()
	hash, result := impl.Hash(n), impl.Balance(n)
	if !impl.NetOk(result) || !impl.IsHashed(result) || !sameLeaves(n, result) {
		t.Errorf("%s: Balance = %v is not hashed or has other leaves, of %v", what, result, n)
		return
	}
	if got, before := impl.Depth(result), impl.Depth(hash); got > before || before > impl.Depth(n) {
		t.Errorf("%s: the depth is %d after Hash and %d after Balance, of %v", what, before, got, n)
	}
	if got := impl.Balance(hash); !sameNet(got, result) {
		t.Errorf("%s: Balance = %v of a hashed net, and %v of %v", what, got, result, n)
	}
	if run := impl.NetRun(n, ins); !slices.Equal(impl.NetRun(result, ins), run) || len(run) != len(ins) {
		t.Errorf("%s: the run %v is not that of %v, of %v", what, run, result, n)
	}
	st := someStates(n, pick)
	for _, in := range ins {
		checkConjunctsInState(t, what, n, st, in)
		next, outs := impl.NetStep(n, st, in)
		if otherNext, otherOuts := impl.NetStep(result, st, in); !slices.Equal(otherNext, next) || otherOuts != outs {
			t.Errorf("%s: a step of %v is not that of %v", what, result, n)
		}
		st = next
	}
	checkConjunctsForm(t, what, n)
}

// checkTrees checks Conjuncts and Balance of a valid net in all ways and returns how often each
// special case was met.
func checkTrees(t *testing.T, what string, n impl.Net, pick func(n int) int) map[string]int {
	t.Helper()
	if !impl.NetOk(n) {
		t.Errorf("%s: NetOk is false for %v", what, n)
		return nil
	}
	checkBalancing(t, what, n, someCycles(6, pick), pick)
	return checkBalance(t, what, n)
}

// withEvenLiterals returns a net with more even literals in its AND nodes.
func withEvenLiterals(n impl.Net, pick func(n int) int) impl.Net {
	even := func(lit int) int {
		if pick(4) == 0 {
			return lit
		}
		return lit - lit%2
	}
	for i, and := range n.Ands {
		n.Ands[i] = impl.And{A: even(and.A), B: even(and.B)}
	}
	return n
}

// withKind returns a net in which all sequential elements are of a kind.
func withKind(n impl.Net, kind int, pick func(n int) int) impl.Net {
	root := func() int { return pick(2 * nodeCount(n)) }
	for i := range n.Seqs {
		if kind == impl.SeqFlop {
			n.Seqs[i] = flop(pick(2), root())
		} else {
			n.Seqs[i] = ram(pick(32), root(), root(), root(), root())
		}
	}
	return n
}

// conjunctCase is a list of AND nodes and the conjuncts of a node.
type conjunctCase struct {
	what string
	ands []impl.And
	node int
	want []int
}

// checkConjunctCases checks Conjuncts of nets with the inputs 2 and 4, the flip-flop 6, the memory 8
// and the AND nodes 10 (node 5), 12 (node 6) and so on.
func checkConjunctCases(t *testing.T, cases []conjunctCase) {
	t.Helper()
	for _, c := range cases {
		n := impl.Net{Inputs: 2, Seqs: []impl.Seq{flop(1, 9), ram(5, 2, 4, 7, 8)}, Ands: c.ands, Outs: []int{3}}
		if got := impl.Conjuncts(n, c.node); !slices.Equal(got, c.want) || c.want == nil && got != nil {
			t.Errorf("%s: Conjuncts of node %d = %v, want %v, of %v", c.what, c.node, got, c.want, n)
		}
		checkTrees(t, c.what, n, picker(120))
		eachState(n, func(st []int, in int) { checkConjunctsInState(t, c.what, n, st, in) })
		checkFreeValues(t, c.what, n)
	}
}

func TestConjuncts(t *testing.T) {
	chain := gates(2, 4, 6, 10, 8, 12)
	checkConjunctCases(t, []conjunctCase{
		{"literals of inputs", gates(2, 4), 5, []int{2, 4}},
		{"the greater literal first", gates(4, 2), 5, []int{2, 4}},
		{"complements of inputs", gates(5, 3), 5, []int{3, 5}},
		{"literals of sequential elements", gates(6, 8), 5, []int{6, 8}},
		{"complements of sequential elements", gates(9, 7), 5, []int{7, 9}},
		{"literals of an input and a flip-flop", gates(7, 2), 5, []int{2, 7}},
		{"literals of node 0", gates(1, 0), 5, []int{0, 1}},
		{"0 and an input", gates(4, 0), 5, []int{0, 4}},
		{"1 and a memory", gates(1, 8), 5, []int{1, 8}},
		{"0 twice", gates(0, 0), 5, []int{0}},
		{"a literal twice", gates(2, 2), 5, []int{2}},
		{"a literal and its complement", gates(2, 3), 5, []int{2, 3}},
		{"an odd literal of an AND node", gates(2, 4, 6, 11), 6, []int{6, 11}},
		{"an odd literal of an AND node as A", gates(2, 4, 11, 6), 6, []int{6, 11}},
		{"an even literal of an AND node", gates(2, 4, 6, 10), 6, []int{2, 4, 6}},
		{"an even literal of an AND node as A", gates(2, 4, 10, 6), 6, []int{2, 4, 6}},
		{"even literals of two AND nodes", gates(2, 7, 4, 9, 12, 10), 7, []int{2, 4, 7, 9}},
		{"odd literals of two AND nodes", gates(2, 7, 4, 9, 13, 11), 7, []int{11, 13}},
		{"an even literal of an AND node twice", gates(2, 7, 10, 10), 6, []int{2, 7}},
		{"an odd literal of an AND node twice", gates(2, 7, 11, 11), 6, []int{11}},
		{"an AND node and its complement", gates(2, 7, 10, 11), 6, []int{2, 7, 11}},
		{"a literal that the node below has", gates(2, 4, 4, 10), 6, []int{2, 4}},
		{"the complement of what the node below has", gates(2, 4, 5, 10), 6, []int{2, 4, 5}},
		{"two nodes below that have one literal", gates(2, 4, 4, 6, 10, 12), 7, []int{2, 4, 6}},
		{"constants below", gates(1, 0, 10, 2), 6, []int{0, 1, 2}},
		{"the first of a chain", chain, 5, []int{2, 4}},
		{"the second of a chain", chain, 6, []int{2, 4, 6}},
		{"the third of a chain", chain, 7, []int{2, 4, 6, 8}},
	})
}

// TestConjunctsBelowOneAnother checks AND nodes several times one below the other.
func TestConjunctsBelowOneAnother(t *testing.T) {
	checkConjunctCases(t, []conjunctCase{
		{"the complement in the middle of a chain", gates(2, 4, 6, 10, 8, 13), 7, []int{8, 13}},
		{"the complement at the end of a chain", gates(2, 4, 6, 11, 8, 12), 7, []int{6, 8, 11}},
		{"what is below a complement is not joined", gates(2, 4, 10, 6, 13, 9, 14, 7), 8, []int{7, 9, 13}},
		{"a node and, further below, its complement", gates(2, 4, 11, 6, 12, 10), 7, []int{2, 4, 6, 11}},
		{"a complement and, further below, its node", gates(2, 4, 10, 6, 12, 11), 7, []int{2, 4, 6, 11}},
		{"a node on two paths", gates(2, 4, 10, 6, 10, 8, 12, 14), 8, []int{2, 4, 6, 8}},
		{"a node and the one below it", gates(2, 4, 10, 6, 12, 10), 7, []int{2, 4, 6}},
		{"equal AND nodes", gates(2, 4, 2, 4, 10, 12), 7, []int{2, 4}},
		{"complements of equal AND nodes", gates(2, 4, 2, 4, 11, 13), 7, []int{11, 13}},
		{"equal AND nodes, one as a complement", gates(2, 4, 2, 4, 11, 12), 7, []int{2, 4, 11}},
		{"one literal all the way", gates(2, 2, 10, 10, 12, 12, 14, 14), 8, []int{2}},
		{"the constant 1 all the way", gates(1, 1, 1, 10, 12, 12, 10, 14), 8, []int{1}},
		{"joined twice", gates(2, 5, 10, 3, 12, 4, 14, 12), 8, []int{2, 3, 4, 5}},
	})
}

// TestConjunctsOfOtherNodes checks nodes that are not AND nodes.
func TestConjunctsOfOtherNodes(t *testing.T) {
	some := gates(2, 4, 10, 6)
	checkConjunctCases(t, []conjunctCase{
		{"node 0", some, 0, nil},
		{"the first input", some, 1, nil},
		{"the last input", some, 2, nil},
		{"a flip-flop", some, 3, nil},
		{"a memory", some, 4, nil},
		{"beyond the last node", some, 7, nil},
		{"a literal of an AND node", some, 10, nil},
		{"negative", some, -1, nil},
		{"the complement of an AND node", some, -5, nil},
		{"the least int", some, math.MinInt64, nil},
		{"the greatest int", some, math.MaxInt64, nil},
		{"there is no AND node", nil, 4, nil},
		{"there is no AND node", nil, 5, nil},
	})
	if got := impl.Conjuncts(impl.Net{}, 0); got != nil {
		t.Error("Conjuncts =", got, "of the zero net")
	}
	if got := impl.Conjuncts(impl.Net{Ands: gates(1, 0)}, 1); !slices.Equal(got, []int{0, 1}) {
		t.Error("Conjuncts =", got, "where node 1 is an AND node")
	}
}

// checkBalanceCases checks results of Balance.
func checkBalanceCases(t *testing.T, cases []copyCase) {
	t.Helper()
	for _, c := range cases {
		if got := impl.Balance(c.n); !sameNet(got, c.want) {
			t.Errorf("%s: Balance = %v, want %v, of %v", c.what, got, c.want, c.n)
		}
		checkTrees(t, c.what, c.n, picker(121))
		checkTrees(t, c.what, c.want, picker(122))
	}
}

// netOfFour returns a net with the inputs 2, 4, 6 and 8 and the AND nodes 10, 12 and so on.
func netOfFour(outs []int, lits ...int) impl.Net {
	return impl.Net{Inputs: 4, Ands: gates(lits...), Outs: outs}
}

func TestBalance(t *testing.T) {
	checkBalanceCases(t, []copyCase{
		{"the zero net", impl.Net{}, impl.Net{}},
		{"the sample", impl.SampleNet(), impl.SampleNet()},
		{"a chain", netOfFour([]int{14}, 2, 4, 6, 10, 8, 12), netOfFour([]int{14}, 2, 4, 6, 8, 10, 12)},
		{"a chain from the last input", netOfFour([]int{15}, 6, 8, 4, 10, 2, 12), netOfFour([]int{15}, 2, 4, 6, 8, 10, 12)},
		{"a chain of complements", netOfFour([]int{14}, 3, 5, 7, 10, 9, 12), netOfFour([]int{14}, 3, 5, 7, 9, 10, 12)},
		{"three literals", netOfFour([]int{12}, 6, 8, 2, 10), netOfFour([]int{12}, 2, 6, 8, 10)},
		{"a tree", netOfFour([]int{14}, 2, 4, 6, 8, 10, 12), netOfFour([]int{14}, 2, 4, 6, 8, 10, 12)},
		{"a tree of other pairs", netOfFour([]int{14}, 2, 6, 4, 8, 10, 12), netOfFour([]int{14}, 2, 4, 6, 8, 10, 12)},
		{"a chain of disjunctions", netOfFour([]int{14}, 2, 4, 6, 11, 8, 13), netOfFour([]int{14}, 2, 4, 6, 11, 8, 13)},
		{"a node below that is not needed", netOfFour([]int{12}, 4, 6, 2, 10), netOfFour([]int{12}, 2, 4, 6, 10)},
		{"a node below that a root needs, too", netOfFour([]int{12, 10}, 4, 6, 2, 10), netOfFour([]int{14, 10}, 4, 6, 2, 4, 6, 12)},
		{"a node that only the conjuncts of another one need", netOfFour([]int{14}, 4, 6, 2, 10, 8, 13), netOfFour([]int{14}, 2, 4, 6, 10, 8, 13)},
		{"a node that the conjuncts of one that is not needed have", netOfFour([]int{14}, 2, 4, 6, 11, 8, 12), netOfFour([]int{14}, 2, 4, 6, 8, 11, 12)},
		{"by levels before literals", netOfFour([]int{18}, 2, 4, 6, 11, 6, 8, 2, 13, 15, 16), netOfFour([]int{18}, 2, 4, 6, 11, 6, 8, 2, 15, 13, 16)},
		{"what is left of a net that is not hashed", netOfFour([]int{16, 1}, 4, 2, 10, 6, 1, 12, 14, 8, 0, 2, 3, 5), netOfFour([]int{14, 1}, 2, 4, 6, 8, 10, 12)},
	})
}

// TestBalanceOfRoots checks outputs and In of sequential elements.
func TestBalanceOfRoots(t *testing.T) {
	net := func(flopIn int, ramIn []int, outs []int, lits ...int) impl.Net {
		return impl.Net{Inputs: 2, Seqs: []impl.Seq{flop(1, flopIn), ram(20, ramIn...)}, Ands: gates(lits...), Outs: outs}
	}
	balanced := gates(2, 4, 6, 10, 6, 8, 10, 14)
	checkBalanceCases(t, []copyCase{
		{
			"all kinds of roots",
			net(15, []int{14, 11, 5, 13}, []int{15, 14, 12, 3, 1}, 2, 4, 6, 10, 8, 12),
			impl.Net{Inputs: 2, Seqs: []impl.Seq{flop(1, 17), ram(20, 16, 11, 5, 13)}, Ands: balanced, Outs: []int{17, 16, 12, 3, 1}},
		},
		{
			"only In of a flip-flop",
			net(14, []int{0, 1, 3, 9}, nil, 2, 4, 6, 10, 8, 12),
			net(14, []int{0, 1, 3, 9}, nil, 2, 4, 6, 8, 10, 12),
		},
		{
			"only In of a memory",
			net(2, []int{8, 8, 15, 15}, nil, 2, 4, 6, 10, 8, 12),
			net(2, []int{8, 8, 15, 15}, nil, 2, 4, 6, 8, 10, 12),
		},
		{
			"no AND nodes",
			net(8, []int{0, 3, 4, 7}, []int{9, 1}),
			net(8, []int{0, 3, 4, 7}, []int{9, 1}),
		},
		{
			"no AND node that a root has",
			net(8, []int{0, 3, 4, 7}, []int{9, 1}, 2, 4, 10, 6),
			net(8, []int{0, 3, 4, 7}, []int{9, 1}),
		},
		{"no roots", netOfFour(nil, 2, 4, 10, 6), netOfFour(nil)},
		{"no inputs", impl.Net{Seqs: []impl.Seq{flop(0, 9), flop(1, 6), flop(0, 2)}, Ands: gates(2, 4, 6, 8), Outs: []int{10}},
			impl.Net{Seqs: []impl.Seq{flop(0, 9), flop(1, 6), flop(0, 2)}, Ands: gates(2, 4, 6, 8), Outs: []int{10}}},
		{"constants only", impl.Net{Ands: gates(1, 1, 2, 1, 3, 3), Outs: []int{4, 6, 7}}, impl.Net{Outs: []int{1, 0, 1}}},
	})
}

// TestBalanceOfEqualLiterals checks nodes that are equal after they have been joined.
func TestBalanceOfEqualLiterals(t *testing.T) {
	checkBalanceCases(t, []copyCase{
		{"a literal twice in a chain", netOfFour([]int{12}, 2, 4, 4, 10), netOfFour([]int{10}, 2, 4)},
		{"nodes that have become equal", netOfFour([]int{12, 16, 17}, 2, 4, 6, 10, 4, 6, 2, 14), netOfFour([]int{12, 12, 13}, 2, 4, 6, 10)},
		{"equal literals and another one", netOfFour([]int{16}, 2, 4, 4, 10, 6, 11, 13, 14), netOfFour([]int{12}, 2, 4, 6, 11)},
		{"a list with one element", netOfFour([]int{14, 15}, 2, 4, 4, 10, 11, 13), netOfFour([]int{11, 10}, 2, 4)},
		{"the complement of a list with one element", netOfFour([]int{16}, 2, 4, 4, 10, 11, 13, 6, 15), netOfFour([]int{12}, 2, 4, 6, 10)},
		{
			"an AND node that the list has already",
			netOfFour([]int{18}, 2, 4, 4, 10, 11, 13, 6, 15, 10, 16),
			netOfFour([]int{12}, 2, 4, 6, 10),
		},
		{
			"an AND node that the list has already, as the last one",
			netOfFour([]int{18}, 2, 4, 4, 10, 11, 13, 2, 15, 4, 16),
			netOfFour([]int{10}, 2, 4),
		},
	})
}

// TestBalanceOfConstants checks nodes that are constant after they have been joined.
func TestBalanceOfConstants(t *testing.T) {
	checkBalanceCases(t, []copyCase{
		{"a literal and its complement", netOfFour([]int{12, 13}, 2, 4, 3, 10), netOfFour([]int{0, 1})},
		{"a complement behind others", netOfFour([]int{14}, 2, 4, 6, 10, 7, 12), netOfFour([]int{0})},
		{"a complement before others", netOfFour([]int{16}, 2, 4, 3, 10, 6, 12, 8, 14), netOfFour([]int{0})},
		{
			"a complement that is apart from its literal",
			netOfFour([]int{14}, 2, 4, 5, 10, 3, 12),
			netOfFour([]int{0}),
		},
		{
			"a complement that meets its literal too late",
			netOfFour([]int{12}, 2, 4, 5, 10),
			netOfFour([]int{12}, 2, 4, 5, 10),
		},
		{
			"the complement of a part that is not found",
			netOfFour([]int{16}, 2, 4, 6, 10, 4, 6, 12, 15),
			netOfFour([]int{16}, 4, 6, 2, 4, 6, 11, 12, 14),
		},
		{"an AND node that has become equal and its complement", netOfFour([]int{18}, 2, 4, 6, 10, 4, 6, 2, 14, 13, 16), netOfFour([]int{0})},
		{"the complement of a constant node", netOfFour([]int{14, 15}, 2, 4, 3, 10, 6, 13), netOfFour([]int{6, 7})},
		{"the complement of a constant node and two others", netOfFour([]int{16}, 2, 4, 3, 10, 6, 13, 8, 14), netOfFour([]int{10}, 6, 8)},
		{"a node that is 1 below two others", netOfFour([]int{20, 21}, 2, 4, 3, 10, 2, 6, 3, 14, 13, 17, 8, 19), netOfFour([]int{0, 1})},
		{"only complements of constant nodes", netOfFour([]int{18, 19}, 2, 4, 3, 10, 2, 6, 3, 14, 13, 17), netOfFour([]int{1, 0})},
	})
}

func TestBalanceOfInvalidNets(t *testing.T) {
	if got := impl.Balance(smallNet()); !sameNet(got, impl.Hash(smallNet())) || len(impl.Conjuncts(smallNet(), 6)) != 3 {
		t.Error("Balance =", got, "before the net is changed")
	}
	for what, n := range moreInvalidNets() {
		if got := impl.Balance(n); !sameNet(got, impl.Net{}) {
			t.Errorf("%s: Balance = %v of %v", what, got, n)
		}
		for _, node := range manyNodes(n) {
			if got := impl.Conjuncts(n, node); got != nil {
				t.Errorf("%s: Conjuncts of node %d = %v of %v", what, node, got, n)
			}
		}
		checkBalance(t, what, n)
	}
}

// leavesFor returns a net with the given number of inputs and sequential elements, at most 32, without
// AND nodes.
func leavesFor(count int) impl.Net {
	seqs := min(count/2, 12)
	return netOfLengths(count-seqs, seqs, 0, 0)
}

// conjunctionOf returns a net with one output, the conjunction of literals that are joined two by two
// as join chooses, which returns two indexes for a number of literals.
func conjunctionOf(n impl.Net, lits []int, join func(count int) (int, int)) impl.Net {
	n, lits = roomy(n), slices.Clone(lits)
	for len(lits) > 1 {
		i, k := join(len(lits))
		n.Ands = append(n.Ands, impl.And{A: lits[i], B: lits[k]})
		rest := slices.Delete(lits, max(i, k), max(i, k)+1)
		lits = append(slices.Delete(rest, min(i, k), min(i, k)+1), 2*(nodeCount(n)-1))
	}
	n.Outs = []int{lits[0]}
	return n
}

// joins returns ways to join literals: as chains from both ends, as a tree and in a scattered order.
func joins(pick func(n int) int) []func(count int) (int, int) {
	return []func(count int) (int, int){
		func(count int) (int, int) { return count - 1, 0 },
		func(count int) (int, int) { return count - 2, count - 1 },
		func(count int) (int, int) { return 0, 1 },
		func(count int) (int, int) {
			i := pick(count)
			return i, (i + 1 + pick(count-1)) % count
		},
	}
}

// depthOfTree returns the least depth of a tree of nodes with the given levels.
func depthOfTree(levels []int) int {
	depth, room := slices.Max(levels), 0
	for _, level := range levels {
		room += 1 << level
	}
	for 1<<depth < room {
		depth++
	}
	return depth
}

// TestBalanceOfLeaves checks conjunctions of inputs and sequential elements, however they are joined:
// they become the same tree, which is as low as a tree can be.
func TestBalanceOfLeaves(t *testing.T) {
	pick := picker(123)
	for count := 1; count <= 32; count++ {
		n := leavesFor(count)
		var lits []int
		for node := 1; node <= count; node++ {
			lits = append(lits, 2*node+pick(2))
		}
		want := impl.Balance(conjunctionOf(n, lits, joins(pick)[0]))
		if got := impl.Depth(want); got != depthOfTree(make([]int, count)) || len(want.Ands) != count-1 {
			t.Errorf("Balance = %v with the depth %d, of %d leaves", want, got, count)
		}
		for _, join := range joins(pick) {
			tree := conjunctionOf(n, lits, join)
			last := nodeCount(tree) - 1
			if got := impl.Conjuncts(tree, last); count > 1 && !slices.Equal(got, lits) {
				t.Errorf("Conjuncts = %v, want %v, of %v", got, lits, tree)
			}
			if got := impl.Balance(tree); !sameNet(got, want) {
				t.Errorf("Balance = %v, want %v, of %v", got, want, tree)
			}
			checkTrees(t, "a conjunction", tree, pick)
		}
	}
}

// ladders returns a net with rising chains of AND nodes that have the complement of the AND node
// before them, and the complements of all these AND nodes.
func ladders(chains int, steps int) (impl.Net, []int) {
	n := impl.Net{Inputs: 2 * chains}
	var lits []int
	for chain := range chains {
		below := 4*chain + 2
		for step := range steps {
			n.Ands = append(n.Ands, impl.And{A: 4*chain + 4 - step%2*2, B: below})
			below = 2*nodeCount(n) - 1
			lits = append(lits, below)
		}
	}
	return n, lits
}

// TestBalanceOfLevels checks conjunctions of nodes with many levels: the trees are as low as trees can
// be.
func TestBalanceOfLevels(t *testing.T) {
	pick := picker(124)
	n, lits := ladders(9, 7)
	levels := impl.Levels(n)
	lower := 0
	for range 300 {
		chosen := slices.Clone(lits)
		for range 36 + pick(26) {
			i := pick(len(chosen))
			chosen = slices.Delete(chosen, i, i+1)
		}
		var heights []int
		for _, lit := range chosen {
			heights = append(heights, levels[lit/2])
		}
		tree := conjunctionOf(n, chosen, joins(pick)[pick(4)])
		got, want := impl.Depth(impl.Balance(tree)), depthOfTree(heights)
		if got != want {
			t.Errorf("the depth of a tree of the levels %v is %d, want %d", heights, got, want)
		}
		lower += asNumber(want < impl.Depth(tree))
		checkTrees(t, "a tree of levels", tree, pick)
	}
	if lower < 100 {
		t.Error("only", lower, "trees have become lower")
	}
}

// prefixes returns a net with the given number of AND nodes in a chain that stays as it is, and the
// conjunctions of the first two, three and so on of some inputs, of which each one has the one before
// it. The literals are those of the end of the chain and of these conjunctions.
func prefixes(chain int, count int) (impl.Net, []int) {
	n := impl.Net{Inputs: 2 + count}
	below := 2
	for i := range chain {
		n.Ands = append(n.Ands, impl.And{A: 4 - i%2*2, B: below})
		below = 2*nodeCount(n) - 1
	}
	lits := []int{below - 1}
	below = 6
	for i := 1; i < count; i++ {
		n.Ands = append(n.Ands, impl.And{A: 6 + 2*i, B: below})
		below = 2*nodeCount(n) - 2
		lits = append(lits, below)
	}
	return n, lits
}

// TestBalanceOfFullNets checks nets of which the trees need as many AND nodes as there may be, and
// more.
func TestBalanceOfFullNets(t *testing.T) {
	pick := picker(125)
	for _, count := range []int{4, 5, 9, 16} {
		alone, roots := prefixes(1, count)
		alone.Outs = roots
		trees := len(impl.Balance(alone).Ands) - 1
		if trees <= count-1 {
			t.Errorf("%d AND nodes become %d", count-1, trees)
		}
		most := 300 - trees
		for chain := most - 2; chain <= 300-(count-1); chain++ {
			n, roots := prefixes(chain, count)
			n.Outs = roots
			got := impl.Balance(n)
			if chain <= most && len(got.Ands) != chain+trees || chain > most && !sameNet(got, impl.Hash(n)) {
				t.Errorf("Balance leaves %d of %d AND nodes, where %d of a chain would be left", len(got.Ands), len(n.Ands), chain)
			}
			if chain > most && len(got.Ands) != len(n.Ands) {
				t.Errorf("Hash leaves %d of %d AND nodes", len(got.Ands), len(n.Ands))
			}
			if chain <= most+2 {
				met := checkTrees(t, "a full net", n, pick)
				if (met["an AND node does not fit"] > 0) != (chain > most) {
					t.Errorf("the special cases are %v with %d AND nodes", met, len(n.Ands))
				}
			}
		}
	}
}

// TestBalanceOfFullNetsOfConstants checks nets whose trees are not needed in the end, as the only
// output is constant: they count all the same.
func TestBalanceOfFullNetsOfConstants(t *testing.T) {
	pick := picker(126)
	const count = 16
	alone, roots := prefixes(1, count)
	alone.Outs = roots
	most := 300 - (len(impl.Balance(alone).Ands) - 1)
	for chain := most - 2; chain <= most+2; chain++ {
		n, roots := prefixes(chain, count)
		lits := []int{8, 9}
		for _, root := range roots {
			lits = append(lits, root+1)
		}
		// The literal and its complement do not meet before the end.
		n = conjunctionOf(n, lits, func(count int) (int, int) { return count - 1, min(1, count-2) })
		got := impl.Balance(n)
		if chain <= most && !sameNet(got, impl.Net{Inputs: 18, Outs: []int{0}}) {
			t.Errorf("Balance = %v of a net with the constant output 0", got)
		}
		if chain > most && (!sameNet(got, impl.Hash(n)) || len(got.Ands) != len(n.Ands)) {
			t.Errorf("Balance = %v where the trees do not fit, of %v", got, n)
		}
		checkTrees(t, "a full net with a constant output", n, pick)
	}
}

// TestBalanceAtLimits checks nets without inputs, without sequential elements, without AND nodes and
// without outputs, and with as many as there may be.
func TestBalanceAtLimits(t *testing.T) {
	pick := picker(127)
	for _, inputs := range []int{0, 1, 20} {
		for _, seqs := range []int{0, 1, 12} {
			for _, ands := range []int{0, 1, 2, 300} {
				for _, outs := range []int{0, 1, 16} {
					n := withEvenLiterals(someNet(inputs, seqs, ands, outs, 1+pick(30), pick), pick)
					checkTrees(t, "a limit", n, pick)
				}
			}
		}
	}
}

// TestBalanceOfLongChains checks nets in which each AND node has the literal of the node before it.
func TestBalanceOfLongChains(t *testing.T) {
	pick := picker(128)
	cases := []struct {
		what  string
		pair  func(before int, i int) (int, int)
		nodes int
	}{
		{"inputs in turn", func(before int, i int) (int, int) { return 2 + i%6, before }, 0},
		{"two inputs in turn", func(before int, i int) (int, int) { return 2 + i%2*2, before }, 2},
		{"four leaves in turn, and each fifth node as a complement", func(before int, i int) (int, int) { return 2 + i%4*2, before + i%5/4 }, 65},
		{"the two nodes before", func(before int, i int) (int, int) { return before - 2, before }, 1},
		{"the two nodes before, the last one as a complement in turn", func(before int, i int) (int, int) { return before - 2, before + i%2 }, 2},
		{"equal literals", func(before int, i int) (int, int) { return before, before }, 0},
		{"complements only", func(before int, i int) (int, int) { return 3, before + 1 }, 300},
	}
	for _, c := range cases {
		n := impl.Net{Inputs: 3, Seqs: []impl.Seq{flop(1, 4), ram(7, 610, 611, 2, 1)}, Outs: []int{611, 10, 610}}
		for i := range 300 {
			n.Ands = append(n.Ands, gates(c.pair(10+2*i, i))...)
		}
		if got := len(impl.Balance(n).Ands); got != c.nodes {
			t.Errorf("%s: Balance leaves %d AND nodes, want %d", c.what, got, c.nodes)
		}
		checkTrees(t, c.what, n, pick)
	}
}

func TestBalanceOfAllSmallNets(t *testing.T) {
	pick := picker(129)
	eachSmallNet(func(n impl.Net) {
		checkBalance(t, "a small net", n)
		checkBalancing(t, "a small net", n, []int{pick(2), pick(2), pick(2)}, pick)
	})
}

// TestBalanceInAllStates checks conjunctions of the two inputs, the flip-flop and the memory of a net
// in all states and for all inputs.
func TestBalanceInAllStates(t *testing.T) {
	pick := picker(130)
	lower := 0
	for range 400 {
		n := impl.Net{Inputs: 2, Seqs: []impl.Seq{flop(pick(2), 0), ram(pick(32), 0, 0, 0, 0)}, Outs: []int{0, 0}}
		for i := range 5 {
			end := 10 + 2*i
			n.Ands = append(n.Ands, impl.And{A: 2 + pick(end-2), B: end - 1 - pick(4)})
		}
		n = withEvenLiterals(n, pick)
		n.Outs = []int{18 + pick(2), 16}
		n.Seqs[0].In[0] = 17 - pick(4)
		n.Seqs[1].In = []int{18, 13, 15, 10 + pick(10)}
		result := impl.Balance(n)
		lower += asNumber(impl.Depth(result) < impl.Depth(impl.Hash(n)))
		eachState(n, func(st []int, in int) {
			checkConjunctsInState(t, "a small net", n, st, in)
			next, outs := impl.NetStep(n, st, in)
			if otherNext, otherOuts := impl.NetStep(result, st, in); !slices.Equal(otherNext, next) || otherOuts != outs {
				t.Errorf("the step of %v is %v, %d, and that of %v is %v, %d", n, next, outs, result, otherNext, otherOuts)
			}
		})
		checkFreeValues(t, "a small net", n)
		checkTrees(t, "a small net", n, pick)
	}
	if lower < 30 {
		t.Error("only", lower, "nets have become lower")
	}
}

// TestBalanceOfScatteredNets checks scattered nets without sequential elements, with flip-flops, with
// memories and with both; enough of them must become lower, and larger.
func TestBalanceOfScatteredNets(t *testing.T) {
	pick := picker(131)
	lower, larger := make([]int, 4), make([]int, 4)
	for round := range 3000 {
		n := withEvenLiterals(someNet(1+pick(5), pick(4), 2+pick(30), 4+pick(13), 1+pick(4), pick), pick)
		if kind := round % 4; kind < 2 {
			n = withKind(n, kind, pick)
		}
		hash, result := impl.Hash(n), impl.Balance(n)
		kinds := kindsOf(n)
		lower[kinds] += asNumber(impl.Depth(result) < impl.Depth(hash))
		larger[kinds] += asNumber(len(result.Ands) > len(hash.Ands))
		checkTrees(t, "a scattered net", n, pick)
	}
	if slices.Min(lower) < 50 || slices.Min(larger) < 5 {
		t.Error("only", lower, "nets have become lower and", larger, "larger")
	}
}

// doubledNet returns a net in which three scattered literals are joined in both ways, again and again,
// and then the complements of both conjunctions.
func doubledNet(leaves int, groups int, pick func(n int) int) impl.Net {
	n := leavesFor(leaves)
	var lits []int
	for node := 1; node <= leaves; node++ {
		lits = append(lits, 2*node, 2*node+1)
	}
	add := func(a int, b int) int {
		n.Ands = append(n.Ands, impl.And{A: a, B: b})
		return 2 * (nodeCount(n) - 1)
	}
	some := func() int { return lits[pick(len(lits))] }
	for range groups {
		a, b, c := some(), some(), some()
		p, q := add(add(a, b), c), add(a, add(b, c))
		neither := add(p+1, q+1)
		lits = append(lits, p, p+1, q, q+1, neither, neither+1)
	}
	for range 1 + pick(16) {
		n.Outs = append(n.Outs, some())
	}
	for _, s := range n.Seqs {
		for i := range s.In {
			s.In[i] = some()
		}
	}
	return n
}

// TestBalanceOfDoubledNets checks nets with many nodes that become equal or constant; enough of them
// must meet each special case.
func TestBalanceOfDoubledNets(t *testing.T) {
	pick := picker(134)
	met := map[string]int{}
	for range 1500 {
		n := doubledNet(2+pick(6), 1+pick(10), pick)
		if pick(2) == 0 {
			n = withKind(n, pick(2), pick)
		}
		for what, times := range checkTrees(t, "a doubled net", n, pick) {
			met[what] += asNumber(times > 0)
		}
	}
	for what, times := range met {
		if times < 50 {
			t.Errorf("only %d nets meet the case: %s", times, what)
		}
	}
}

// TestBalanceOfModules checks that the balanced nets of modules have the runs of the modules.
func TestBalanceOfModules(t *testing.T) {
	pick := picker(135)
	equal := readModule(t, "in 4\nin 4\nout 4\nset s2 = s0 s1")
	for _, m := range slices.Concat([]impl.Module{equal}, flatModules(t), smallModules(t)) {
		n, ok := impl.Elaborate(m)
		if !ok {
			t.Errorf("%v has no net", m)
		}
		result := impl.Balance(n)
		for range 5 {
			checkGraphRuns(t, "a module", m, result, pick)
		}
		checkTrees(t, "a module", n, pick)
	}
	// Four bits are compared one after the other, and their eight parts are joined in three levels.
	n, _ := impl.Elaborate(equal)
	if before, after := impl.Depth(n), impl.Depth(impl.Balance(n)); before != 5 || after != 4 {
		t.Error("the depth is", before, "before Balance and", after, "after it")
	}
}

// kindsOf returns 0 for a net without sequential elements, 1 for one with flip-flops only, 2 for one
// with memories only and 3 for one with both.
func kindsOf(n impl.Net) int {
	has := func(kind int) int {
		return asNumber(slices.ContainsFunc(n.Seqs, func(s impl.Seq) bool { return s.Kind == kind }))
	}
	return has(impl.SeqFlop) + 2*has(impl.SeqRam)
}

// TestBalanceOfChangedNets changes one number or one length of a net at a time.
func TestBalanceOfChangedNets(t *testing.T) {
	pick := picker(132)
	valid, invalid := 0, 0
	for _, n := range []impl.Net{
		impl.SampleNet(), smallNet(), netOfFour([]int{14, 13}, 2, 4, 6, 10, 8, 12),
		{Inputs: 3, Seqs: []impl.Seq{flop(1, 18), ram(30, 2, 17, 4, 20)}, Ands: gates(2, 5, 8, 12, 10, 14, 6, 16, 4, 19), Outs: []int{20, 1}},
	} {
		eachChange(n, manyNumbers(), func(what string, n impl.Net) {
			if impl.NetOk(n) {
				valid++
				checkTrees(t, what, n, pick)
				if nodeCount(n) <= 11 {
					checkFreeValues(t, what, n)
				}
			} else {
				invalid++
				checkBalance(t, what, n)
			}
		})
	}
	if valid < 300 || invalid < 300 {
		t.Error("only", valid, "valid nets and", invalid, "others")
	}
}

// checkOwnBalance checks that neither function of Chapter 12 changes its argument, or shares memory
// with it or within its result.
func checkOwnBalance(t *testing.T, original impl.Net) {
	t.Helper()
	n := roomy(original)
	nets := []impl.Net{impl.Balance(n), impl.Balance(n)}
	var lists [][]int
	for _, node := range manyNodes(original) {
		lists = append(lists, impl.Conjuncts(n, node), impl.Conjuncts(n, node))
	}
	if sharesMemory(n, nets, lists) {
		t.Errorf("results share memory, for %v", original)
	}
	overwrite(reflect.ValueOf(nets))
	overwrite(reflect.ValueOf(lists))
	if !untouched(n, roomy(original)) {
		t.Errorf("%v was changed to %v", original, n)
	}
}

func TestBalanceMemory(t *testing.T) {
	pick := picker(133)
	for range 30 {
		n := withEvenLiterals(someNet(1+pick(20), pick(13), pick(20), pick(17), 1+pick(3), pick), pick)
		checkOwnBalance(t, n)
		checkOwnBalance(t, impl.Hash(n))
		checkOwnBalance(t, impl.Balance(n))
		n.Outs = append(n.Outs, -1)
		checkOwnBalance(t, n)
	}
	for _, n := range invalidNets() {
		checkOwnBalance(t, n)
	}
	full, roots := prefixes(285, 16)
	full.Outs = roots
	for _, n := range []impl.Net{{}, {Inputs: math.MinInt64}, {Outs: []int{}}, {Ands: gates(-1, 5)}, impl.SampleNet(), smallNet(), netOfLengths(3, 2, 300, 4), full} {
		checkOwnBalance(t, n)
	}
	// Parts of one argument may share memory; those of a result do not.
	same := []int{2, 12, 10, 13}
	n := impl.Net{Inputs: 2, Seqs: []impl.Seq{ram(3, same...), ram(4, same...)}, Ands: gates(2, 4, 6, 10), Outs: same}
	n.Seqs[0].In, n.Seqs[1].In = same, same
	if got := impl.Balance(n); sharesMemory(same, got) || !sameNet(got, n) {
		t.Error("Balance =", got)
	}
	if !slices.Equal(same, []int{2, 12, 10, 13}) {
		t.Error("the argument was changed to", same)
	}
}
