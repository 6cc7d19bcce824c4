package tests

import (
	"math"
	"reflect"
	"slices"
	"testing"

	"loop.example/g03311/impl"
)

// opposite returns the complement of a literal.
func opposite(lit int) int {
	if lit%2 == 0 {
		return lit + 1
	}
	return lit - 1
}

// sameNet reports whether two nets are equal.
func sameNet(a impl.Net, b impl.Net) bool {
	sameSeq := func(a impl.Seq, b impl.Seq) bool {
		return a.Kind == b.Kind && a.Init == b.Init && slices.Equal(a.In, b.In)
	}
	return a.Inputs == b.Inputs && slices.EqualFunc(a.Seqs, b.Seqs, sameSeq) && slices.Equal(a.Ands, b.Ands) && slices.Equal(a.Outs, b.Outs)
}

// gate is one of the four functions that add a gate.
type gate struct {
	name     string
	operands int
	add      func(n impl.Net, x []int) (impl.Net, int)
	// expected is add by the rules of the document, one by one.
	expected func(n impl.Net, x []int) (impl.Net, int)
	// value is the value of the gate with the values of its operands.
	value func(v []int) int
}

func fourGates() []gate {
	return []gate{
		{
			"AddAnd", 2,
			func(n impl.Net, x []int) (impl.Net, int) { return impl.AddAnd(n, x[0], x[1]) },
			func(n impl.Net, x []int) (impl.Net, int) { return addAnd(n, x[0], x[1]) },
			func(v []int) int { return asNumber(v[0]+v[1] == 2) },
		},
		{
			"AddOr", 2,
			func(n impl.Net, x []int) (impl.Net, int) { return impl.AddOr(n, x[0], x[1]) },
			func(n impl.Net, x []int) (impl.Net, int) { return addOr(n, x[0], x[1]) },
			func(v []int) int { return asNumber(v[0]+v[1] >= 1) },
		},
		{
			"AddXor", 2,
			func(n impl.Net, x []int) (impl.Net, int) { return impl.AddXor(n, x[0], x[1]) },
			func(n impl.Net, x []int) (impl.Net, int) { return addXor(n, x[0], x[1]) },
			func(v []int) int { return asNumber(v[0]+v[1] == 1) },
		},
		{
			"AddMux", 3,
			func(n impl.Net, x []int) (impl.Net, int) { return impl.AddMux(n, x[0], x[1], x[2]) },
			func(n impl.Net, x []int) (impl.Net, int) { return addMux(n, x[0], x[1], x[2]) },
			func(v []int) int { return v[2-v[0]] },
		},
	}
}

// gateNamed returns the gate with a name.
func gateNamed(name string) gate {
	all := fourGates()
	return all[slices.IndexFunc(all, func(g gate) bool { return g.name == name })]
}

// hasLiterals reports whether a net is valid and all numbers are literals of its nodes.
func hasLiterals(n impl.Net, lits ...int) bool {
	for _, lit := range lits {
		if !slices.Contains(upTo(2*nodeCount(n)), lit) {
			return false
		}
	}
	return netOk(n)
}

func addAnd(n impl.Net, a int, b int) (impl.Net, int) {
	if !hasLiterals(n, a, b) {
		return n, -1
	}
	if a == 0 || b == 0 || a == opposite(b) {
		return n, 0
	}
	if a == 1 || a == b {
		return n, b
	}
	if b == 1 {
		return n, a
	}
	for i, and := range n.Ands {
		if and.A == min(a, b) && and.B == max(a, b) {
			return n, 2 * (1 + n.Inputs + len(n.Seqs) + i)
		}
	}
	if len(n.Ands) == 300 {
		return n, -1
	}
	lit := 2 * nodeCount(n)
	n.Ands = slices.Concat(n.Ands, gates(min(a, b), max(a, b)))
	return n, lit
}

func addOr(n impl.Net, a int, b int) (impl.Net, int) {
	if min(a, b) < 0 {
		return n, -1
	}
	result, lit := addAnd(n, opposite(a), opposite(b))
	if lit == -1 {
		return n, -1
	}
	return result, opposite(lit)
}

// addBoth adds two conjunctions, in order, and their disjunction.
func addBoth(n impl.Net, first []int, second []int) (impl.Net, int) {
	one, p := addAnd(n, first[0], first[1])
	if p == -1 {
		return n, -1
	}
	two, q := addAnd(one, second[0], second[1])
	if q == -1 {
		return n, -1
	}
	three, r := addOr(two, p, q)
	if r == -1 {
		return n, -1
	}
	return three, r
}

func addXor(n impl.Net, a int, b int) (impl.Net, int) {
	if min(a, b) < 0 {
		return n, -1
	}
	return addBoth(n, []int{a, opposite(b)}, []int{opposite(a), b})
}

func addMux(n impl.Net, s int, a int, b int) (impl.Net, int) {
	if !hasLiterals(n, s, a, b) {
		return n, -1
	}
	return addBoth(n, []int{s, a}, []int{opposite(s), b})
}

// checkGate checks the result of a gate for any net and operands, and returns it.
func checkGate(t *testing.T, what string, g gate, n impl.Net, x []int) (impl.Net, int) {
	t.Helper()
	got, lit := g.add(n, x)
	if want, wantLit := g.expected(n, x); lit != wantLit || !sameNet(got, want) {
		t.Errorf("%s: %s = %v, %d, want %v, %d, for %v of %v", what, g.name, got, lit, want, wantLit, x, n)
	}
	return got, lit
}

// checkNotAdded checks that a gate leaves a net unchanged and has no literal.
func checkNotAdded(t *testing.T, what string, g gate, n impl.Net, x []int) {
	t.Helper()
	if got, lit := g.add(n, x); lit != -1 || !sameNet(got, n) {
		t.Errorf("%s: %s = %v, %d for %v of %v", what, g.name, got, lit, x, n)
	}
	checkGate(t, what, g, n, x)
}

// eachState calls visit with all states and inputs of a net.
func eachState(n impl.Net, visit func(st []int, in int)) {
	limits := []int{1<<n.Inputs - 1}
	for _, s := range n.Seqs {
		limits = append(limits, []int{1, 31}[s.Kind])
	}
	x := make([]int, len(limits))
	for more := true; more; more = countUp(x, limits) {
		visit(x[1:], x[0])
	}
}

// checkGateMeaning checks by the results alone that a gate has its value and that all else of a
// valid net stays as it is, in one state.
func checkGateMeaning(t *testing.T, g gate, n impl.Net, x []int, got impl.Net, lit int, st []int, in int) {
	t.Helper()
	before, after := impl.NodeValues(n, st, in), impl.NodeValues(got, st, in)
	var operands []int
	for _, operand := range x {
		operands = append(operands, impl.LitValue(before, operand))
	}
	if value, want := impl.LitValue(after, lit), g.value(operands); value != want {
		t.Errorf("%s has the value %d for the values %v of %v, want %d, of %v", g.name, value, operands, x, want, n)
	}
	if len(after) < len(before) || !slices.Equal(after[:len(before)], before) {
		t.Errorf("%s changes the values %v to %v of %v", g.name, before, after, n)
	}
	next, outs := impl.NetStep(n, st, in)
	gotNext, gotOuts := impl.NetStep(got, st, in)
	if !slices.Equal(next, gotNext) || outs != gotOuts {
		t.Errorf("%s changes the step to %v, %d to %v, %d of %v", g.name, next, outs, gotNext, gotOuts, n)
	}
}

// checkAllGates checks all gates with all literals of a net, and one that is too small and two that
// are too great, in all states.
func checkAllGates(t *testing.T, n impl.Net) {
	t.Helper()
	ins := []int{1, 2, 0, 3, 1, 0}
	run := impl.NetRun(n, ins)
	end := 2 * nodeCount(n)
	for _, g := range fourGates() {
		limits := slices.Repeat([]int{end + 2}, g.operands)
		x := make([]int, g.operands)
		for more := true; more; more = countUp(x, limits) {
			lits := slices.Clone(x)
			for k := range lits {
				lits[k]--
			}
			got, lit := checkGate(t, "a small net", g, n, lits)
			if lit == -1 {
				if slices.Min(lits) >= 0 && slices.Max(lits) < end {
					t.Errorf("%s does not fit for %v of %v", g.name, lits, n)
				}
				continue
			}
			if gotRun := impl.NetRun(got, ins); !slices.Equal(gotRun, run) {
				t.Errorf("%s changes the run %v to %v of %v", g.name, run, gotRun, n)
			}
			eachState(n, func(st []int, in int) { checkGateMeaning(t, g, n, lits, got, lit, st, in) })
		}
	}
}

func TestGatesOfSample(t *testing.T) {
	n := impl.SampleNet()
	cases := []struct {
		name  string
		x     []int
		lit   int
		added []impl.And
	}{
		{"AddAnd", []int{2, 6}, 8, nil},
		{"AddAnd", []int{6, 2}, 8, nil},
		{"AddAnd", []int{2, 4}, 10, gates(2, 4)},
		{"AddAnd", []int{9, 5}, 10, gates(5, 9)},
		{"AddOr", []int{3, 7}, 9, nil},
		{"AddOr", []int{7, 3}, 9, nil},
		{"AddOr", []int{2, 4}, 11, gates(3, 5)},
		{"AddOr", []int{2, 1}, 1, nil},
		{"AddOr", []int{2, 0}, 2, nil},
		{"AddXor", []int{2, 4}, 15, gates(2, 5, 3, 4, 11, 13)},
		{"AddXor", []int{4, 2}, 15, gates(3, 4, 2, 5, 11, 13)},
		{"AddXor", []int{2, 7}, 13, gates(3, 7, 9, 11)},
		{"AddMux", []int{1, 2, 4}, 2, nil},
		{"AddMux", []int{0, 2, 4}, 4, nil},
		{"AddMux", []int{2, 6, 4}, 13, gates(3, 4, 9, 11)},
		{"AddMux", []int{4, 2, 6}, 15, gates(2, 4, 5, 6, 11, 13)},
	}
	for _, c := range cases {
		g := gateNamed(c.name)
		want := n
		want.Ands = slices.Concat(n.Ands, c.added)
		if got, lit := g.add(n, c.x); lit != c.lit || !sameNet(got, want) {
			t.Errorf("%s = %v, %d for %v, want %v, %d", c.name, got, lit, c.x, want, c.lit)
		}
	}
	checkAllGates(t, n)
}

// ruleNet returns a net with the inputs 2, 4 and 6, the flip-flop 8 and the AND nodes 10, 12 and so
// on, which have the given literals.
func ruleNet(lits ...int) impl.Net {
	return impl.Net{Inputs: 3, Seqs: []impl.Seq{flop(1, 2)}, Ands: gates(lits...), Outs: []int{9, 3}}
}

// ruleCase is a conjunction of two literals, and the literal that AddAnd returns.
type ruleCase struct {
	what string
	n    impl.Net
	a, b int
	want int
}

// checkRules checks the results of AddAnd; a new AND node is there exactly if its literal is wanted.
func checkRules(t *testing.T, cases []ruleCase) {
	t.Helper()
	for _, c := range cases {
		want := c.n
		if c.want == 2*nodeCount(c.n) {
			want.Ands = slices.Concat(c.n.Ands, gates(min(c.a, c.b), max(c.a, c.b)))
		}
		if got, lit := impl.AddAnd(c.n, c.a, c.b); lit != c.want || !sameNet(got, want) {
			t.Errorf("%s: AddAnd = %v, %d for %d and %d, want %v, %d", c.what, got, lit, c.a, c.b, want, c.want)
		}
		checkGate(t, c.what, gateNamed("AddAnd"), c.n, []int{c.a, c.b})
	}
}

// TestRulesOfAddAnd checks each rule alone.
func TestRulesOfAddAnd(t *testing.T) {
	none, some := ruleNet(), ruleNet(2, 4)
	twice := ruleNet(2, 6, 2, 4, 3, 5, 2, 4, 4, 2)
	checkRules(t, []ruleCase{
		{"0 on the left", none, 0, 2, 0},
		{"0 on the right", none, 2, 0, 0},
		{"complements", none, 2, 3, 0},
		{"complements", none, 3, 2, 0},
		{"complements of an AND node", some, 11, 10, 0},
		{"no complements", none, 3, 4, 10},
		{"no complements", none, 4, 3, 10},
		{"1 on the left", none, 1, 2, 2},
		{"1 on the left", none, 1, 9, 9},
		{"1 on the right", none, 4, 1, 4},
		{"1 on the right", none, 7, 1, 7},
		{"equal literals", none, 6, 6, 6},
		{"equal literals", none, 9, 9, 9},
		{"equal literals of an AND node", some, 11, 11, 11},
		{"an AND node", some, 2, 4, 10},
		{"an AND node, exchanged", some, 4, 2, 10},
		{"another AND node", twice, 2, 6, 10},
		{"another AND node", twice, 5, 3, 14},
		{"no such AND node", twice, 2, 5, 20},
		{"no such AND node", twice, 3, 4, 20},
		{"an AND node with the greater literal first", ruleNet(4, 2), 2, 4, 12},
		{"an AND node with the greater literal first", ruleNet(4, 2), 4, 2, 12},
		{"an AND node of literals of AND nodes", ruleNet(2, 4, 3, 11), 11, 3, 12},
		{"a new AND node", some, 10, 8, 12},
		{"a new AND node", some, 11, 2, 12},
	})
}

// TestTwoRulesOfAddAnd checks literals to which two of the rules apply, or a rule in two ways.
func TestTwoRulesOfAddAnd(t *testing.T) {
	none := ruleNet()
	twice := ruleNet(2, 6, 2, 4, 3, 5, 2, 4, 4, 2)
	useless := ruleNet(0, 2, 2, 0, 1, 2, 2, 1, 2, 2, 2, 3, 0, 1, 1, 1, 0, 0)
	full := netOfLengths(3, 1, 300, 2)
	copy(full.Ands, gates(4, 2, 2, 6))
	checkRules(t, []ruleCase{
		{"0 and 0", none, 0, 0, 0},
		{"0 and 1", none, 0, 1, 0},
		{"1 and 0", none, 1, 0, 0},
		{"1 and 1", none, 1, 1, 1},
		{"the first of two AND nodes", twice, 2, 4, 12},
		{"the first of two AND nodes, exchanged", twice, 4, 2, 12},
		{"0, and an AND node", useless, 0, 2, 0},
		{"0, and an AND node", useless, 2, 0, 0},
		{"0 and 1, and an AND node", useless, 1, 0, 0},
		{"0 twice, and an AND node", useless, 0, 0, 0},
		{"1, and an AND node", useless, 1, 2, 2},
		{"1, and an AND node", useless, 2, 1, 2},
		{"1 twice, and an AND node", useless, 1, 1, 1},
		{"equal literals, and an AND node", useless, 2, 2, 2},
		{"complements, and an AND node", useless, 3, 2, 0},
		{"0 where no AND node fits", full, 0, 4, 0},
		{"complements where no AND node fits", full, 5, 4, 0},
		{"1 where no AND node fits", full, 1, 5, 5},
		{"1 where no AND node fits", full, 609, 1, 609},
		{"equal literals where no AND node fits", full, 608, 608, 608},
		{"a new AND node where none fits", full, 2, 4, -1},
		{"an AND node where no other one fits", full, 6, 2, 12},
	})
}

// TestGatesThatNeedNoNode checks gates of constants, equal literals and complements, also where no
// AND node fits.
func TestGatesThatNeedNoNode(t *testing.T) {
	cases := []struct {
		name string
		x    []int
		want int
	}{
		{"AddOr", []int{0, 0}, 0}, {"AddOr", []int{0, 1}, 1}, {"AddOr", []int{1, 0}, 1}, {"AddOr", []int{1, 1}, 1},
		{"AddOr", []int{0, 4}, 4}, {"AddOr", []int{4, 0}, 4}, {"AddOr", []int{1, 4}, 1}, {"AddOr", []int{4, 1}, 1},
		{"AddOr", []int{5, 5}, 5}, {"AddOr", []int{4, 5}, 1}, {"AddOr", []int{5, 4}, 1},
		{"AddXor", []int{0, 0}, 0}, {"AddXor", []int{0, 1}, 1}, {"AddXor", []int{1, 0}, 1}, {"AddXor", []int{1, 1}, 0},
		{"AddXor", []int{0, 4}, 4}, {"AddXor", []int{4, 0}, 4}, {"AddXor", []int{1, 4}, 5}, {"AddXor", []int{4, 1}, 5},
		{"AddXor", []int{5, 5}, 0}, {"AddXor", []int{4, 5}, 1}, {"AddXor", []int{5, 4}, 1},
		{"AddMux", []int{0, 2, 4}, 4}, {"AddMux", []int{1, 2, 4}, 2}, {"AddMux", []int{0, 1, 0}, 0}, {"AddMux", []int{1, 1, 0}, 1},
		{"AddMux", []int{4, 1, 0}, 4}, {"AddMux", []int{4, 0, 1}, 5}, {"AddMux", []int{4, 0, 0}, 0}, {"AddMux", []int{4, 1, 1}, 1},
		{"AddMux", []int{4, 4, 0}, 4}, {"AddMux", []int{4, 5, 0}, 0}, {"AddMux", []int{4, 0, 5}, 5}, {"AddMux", []int{4, 0, 4}, 0},
		{"AddMux", []int{4, 4, 5}, 1}, {"AddMux", []int{4, 5, 4}, 0}, {"AddMux", []int{4, 1, 4}, 4}, {"AddMux", []int{5, 5, 4}, 1},
	}
	for _, c := range cases {
		for _, n := range []impl.Net{ruleNet(), ruleNet(2, 4), netOfLengths(3, 1, 300, 2)} {
			g := gateNamed(c.name)
			if got, lit := g.add(n, c.x); lit != c.want || !sameNet(got, n) {
				t.Errorf("%s = %v, %d for %v of %v, want %d", c.name, got, lit, c.x, n, c.want)
			}
			checkGate(t, "no node", g, n, c.x)
		}
	}
}

// TestGatesOfFullNets checks nets with nearly as many AND nodes as there may be: those given and
// others that no gate needs.
func TestGatesOfFullNets(t *testing.T) {
	and, xor, mux := gates(2, 4), gates(2, 5, 3, 4, 11, 13), gates(2, 4, 3, 6, 11, 13)
	cases := []struct {
		name  string
		x     []int
		given []impl.And
		added []impl.And
	}{
		{"AddAnd", []int{2, 4}, nil, and},
		{"AddAnd", []int{4, 2}, and, nil},
		{"AddOr", []int{3, 5}, nil, and},
		{"AddOr", []int{5, 3}, and, nil},
		{"AddXor", []int{2, 4}, nil, xor},
		{"AddXor", []int{2, 4}, xor[:1], xor[1:]},
		{"AddXor", []int{2, 4}, xor[:2], xor[2:]},
		{"AddXor", []int{2, 4}, xor, nil},
		{"AddXor", []int{4, 2}, xor, nil},
		{"AddMux", []int{2, 4, 6}, nil, mux},
		{"AddMux", []int{2, 4, 6}, mux[:1], mux[1:]},
		{"AddMux", []int{2, 4, 6}, mux[:2], mux[2:]},
		{"AddMux", []int{2, 4, 6}, mux, nil},
		{"AddMux", []int{3, 6, 4}, mux, nil},
		{"AddMux", []int{2, 4, 0}, and, nil},
		{"AddMux", []int{3, 0, 4}, nil, and},
	}
	for _, c := range cases {
		g := gateNamed(c.name)
		for count := 290; count <= 300; count++ {
			n := netOfLengths(3, 1, count, 2)
			copy(n.Ands, c.given)
			if count+len(c.added) > 300 {
				checkNotAdded(t, "a full net", g, n, c.x)
				continue
			}
			got, lit := checkGate(t, "a nearly full net", g, n, c.x)
			if lit == -1 || len(got.Ands) != count+len(c.added) || !sameNet(impl.Net{Ands: got.Ands[:count]}, impl.Net{Ands: n.Ands}) {
				t.Errorf("%s = %d with %d AND nodes, after %d ones and %v", c.name, lit, len(got.Ands), count, c.given)
				continue
			}
			pick := picker(uint64(count))
			for range 4 {
				checkGateMeaning(t, g, n, c.x, got, lit, someStates(n, pick), pick(8))
			}
		}
	}
	// All that AddXor and AddMux need are the nodes 302 to 304.
	n := netOfLengths(3, 1, 297, 2)
	if got, lit := impl.AddXor(n, 2, 4); lit != 609 || !slices.Equal(got.Ands[297:], gates(2, 5, 3, 4, 605, 607)) {
		t.Errorf("AddXor = %v, %d where three AND nodes fit", got, lit)
	}
	if got, lit := impl.AddMux(n, 2, 4, 6); lit != 609 || !slices.Equal(got.Ands[297:], gates(2, 4, 3, 6, 605, 607)) {
		t.Errorf("AddMux = %v, %d where three AND nodes fit", got, lit)
	}
}

// TestGatesOfAnyLiterals checks operands that are literals and others, in each place.
func TestGatesOfAnyLiterals(t *testing.T) {
	// With a node that a step adds, a literal that is too great would be one of a node.
	for _, n := range []impl.Net{{}, {Inputs: 1}, ruleNet(), ruleNet(2, 4), smallNet(), netOfLengths(20, 12, 298, 16), netOfLengths(20, 12, 300, 16)} {
		last := 2*nodeCount(n) - 1
		outside := []int{math.MinInt64, math.MinInt64 + 1, -1 << 32, -3, -2, -1, last + 1, last + 2, last + 3, last + 4, last + 5, last + 6, 1 << 32, math.MaxInt64 - 1, math.MaxInt64}
		inside := []int{0, 1, last / 2, last - 1, last}
		for _, g := range fourGates() {
			limits := slices.Repeat([]int{len(outside) + len(inside) - 1}, g.operands)
			places := make([]int, g.operands)
			for more := true; more; more = countUp(places, limits) {
				var x []int
				fits := true
				for _, place := range places {
					x = append(x, slices.Concat(inside, outside)[place])
					fits = fits && place < len(inside)
				}
				if fits {
					checkGate(t, "any literals", g, n, x)
				} else if got, lit := g.add(n, x); lit != -1 || !sameNet(got, n) {
					t.Errorf("%s = %v, %d for %v of %v", g.name, got, lit, x, n)
				}
			}
		}
	}
}

// TestGatesOfOneOddOperand checks each number as one of the operands, where the others are literals.
func TestGatesOfOneOddOperand(t *testing.T) {
	n := smallNet()
	for _, g := range fourGates() {
		for place := range g.operands {
			for _, lit := range append(manyNumbers(), 13, 14) {
				for _, rest := range [][]int{{0, 0, 0}, {1, 1, 1}, {2, 4, 6}, {13, 12, 13}} {
					x := slices.Clone(rest[:g.operands])
					x[place] = lit
					if lit < 0 || lit > 13 {
						checkNotAdded(t, "one operand is no literal", g, n, x)
					} else {
						checkGate(t, "all operands are literals", g, n, x)
					}
				}
			}
		}
	}
}

// operandsOfNet returns the literals of a net and some that it has not.
func operandsOfNet() [][]int {
	return [][]int{{0, 0, 0}, {1, 0, 1}, {2, 4, 6}, {3, 3, 2}, {4, 2, 4}, {-1, 2, 2}, {2, 99, 4}, {math.MinInt64, math.MaxInt64, 0}}
}

// moreInvalidNets returns invalidNets, and nets with the ends of int and with nothing in In.
func moreInvalidNets() map[string]impl.Net {
	nets := invalidNets()
	nets["the least int as Inputs"] = impl.Net{Inputs: math.MinInt64, Outs: []int{0}}
	nets["the greatest int as Inputs"] = impl.Net{Inputs: math.MaxInt64, Ands: gates(2, 4)}
	nets["the least int as a literal"] = impl.Net{Inputs: 2, Ands: gates(2, math.MinInt64)}
	nets["the greatest int as a literal"] = impl.Net{Inputs: 2, Ands: gates(math.MaxInt64, 4)}
	nets["the least int as an output"] = impl.Net{Inputs: 2, Ands: gates(2, 4), Outs: []int{math.MinInt64}}
	nets["nil as In"] = impl.Net{Inputs: 2, Seqs: []impl.Seq{{Kind: impl.SeqFlop}}, Ands: gates(2, 4)}
	nets["empty In"] = impl.Net{Inputs: 2, Seqs: []impl.Seq{{Kind: impl.SeqRam, In: []int{}}}, Ands: gates(2, 4)}
	return nets
}

func TestHashingOfInvalidNets(t *testing.T) {
	if _, lit := impl.AddMux(smallNet(), 2, 4, 6); lit != 19 {
		t.Error("AddMux =", lit, "before the net is changed")
	}
	for what, n := range moreInvalidNets() {
		for _, g := range fourGates() {
			for _, x := range operandsOfNet() {
				checkNotAdded(t, what, g, n, x[:g.operands])
			}
		}
		if got := impl.Hash(n); !sameNet(got, impl.Net{}) {
			t.Errorf("%s: Hash = %v of %v", what, got, n)
		}
		if got := impl.Sweep(n); !sameNet(got, impl.Net{}) {
			t.Errorf("%s: Sweep = %v of %v", what, got, n)
		}
		if impl.IsHashed(n) {
			t.Errorf("%s: IsHashed is true for %v", what, n)
		}
	}
}

// TestGatesOfAllSmallNets checks all gates in all states and for all inputs of small nets.
func TestGatesOfAllSmallNets(t *testing.T) {
	shapes := []struct {
		limits []int
		net    func(x []int) impl.Net
	}{
		{nil, func(x []int) impl.Net { return impl.Net{} }},
		{[]int{3}, func(x []int) impl.Net { return impl.Net{Inputs: 1, Outs: x} }},
		{[]int{1, 1, 3, 3}, func(x []int) impl.Net { return impl.Net{Ands: gates(x...)} }},
		{[]int{5, 5}, func(x []int) impl.Net { return impl.Net{Inputs: 2, Ands: gates(x...), Outs: []int{x[0], 7, 6}} }},
		{[]int{3, 3, 5}, func(x []int) impl.Net {
			return impl.Net{Seqs: []impl.Seq{flop(1, x[2])}, Ands: gates(x[:2]...), Outs: []int{2, 5}}
		}},
		{[]int{3, 3}, func(x []int) impl.Net {
			return impl.Net{Seqs: []impl.Seq{ram(18, 2, 4, 1, 5)}, Ands: gates(x...), Outs: []int{2}}
		}},
	}
	for _, shape := range shapes {
		x := make([]int, len(shape.limits))
		for more := true; more; more = countUp(x, shape.limits) {
			checkAllGates(t, shape.net(slices.Clone(x)))
		}
	}
	for _, n := range []impl.Net{smallNet(), pinsNet(9), {Inputs: 3, Ands: gates(2, 4, 2, 4, 4, 2, 8, 6, 6, 10), Outs: []int{15, 16}}} {
		checkAllGates(t, n)
	}
}

// TestGatesAddedOneByOne builds nets from scattered gates only, and checks runs where the roots are
// literals that gates have returned.
func TestGatesAddedOneByOne(t *testing.T) {
	pick := picker(101)
	full := 0
	for round := range 40 {
		n := netOfLengths(1+pick(5), 1+pick(4), 0, 3)
		want := n
		for range 20 + 15*round {
			g := fourGates()[pick(4)]
			var x []int
			for range g.operands {
				x = append(x, pick(2*nodeCount(n)))
			}
			var lit, wantLit int
			n, lit = g.add(n, x)
			want, wantLit = g.expected(want, x)
			if lit != wantLit || !sameNet(n, want) {
				t.Fatalf("%s = %v, %d for %v, want %v, %d", g.name, n, lit, x, want, wantLit)
			}
			if lit == -1 {
				full++
				continue
			}
			n.Outs[pick(3)] = lit
			n.Seqs[pick(len(n.Seqs))].In[0] = lit
			want = roomy(n)
		}
		checkHash(t, "a net of gates", n)
		checkHashing(t, "a net of gates", n, someCycles(8, pick), pick)
		// Without nodes that are not reached, such a net is hashed already.
		if swept := impl.Sweep(n); !impl.IsHashed(swept) || !sameNet(impl.Hash(n), swept) {
			t.Errorf("Sweep = %v of %v is not hashed", swept, n)
		}
	}
	if full == 0 {
		t.Error("all gates have fitted")
	}
}

// withLiterals returns a net with the given AND nodes and all literals changed.
func withLiterals(n impl.Net, ands []impl.And, change func(lit int) int) impl.Net {
	result := roomy(n)
	result.Ands = slices.Clone(ands)
	for i, and := range ands {
		result.Ands[i] = impl.And{A: change(and.A), B: change(and.B)}
	}
	lists := [][]int{result.Outs}
	for _, s := range result.Seqs {
		lists = append(lists, s.In)
	}
	for _, list := range lists {
		for i := range list {
			list[i] = change(list[i])
		}
	}
	return result
}

// isUsed reports whether a root or an AND node has a literal of a node.
func isUsed(n impl.Net, node int) bool {
	for _, and := range n.Ands {
		if and.A/2 == node || and.B/2 == node {
			return true
		}
	}
	return slices.ContainsFunc(rootsOf(n), func(root int) bool { return root/2 == node })
}

// instead returns a literal that has the value of AND node i, and its own one if there is no other.
func instead(n impl.Net, i int) int {
	a, b := min(n.Ands[i].A, n.Ands[i].B), max(n.Ands[i].A, n.Ands[i].B)
	if a == 0 || a%2 == 0 && b == a+1 {
		return 0
	}
	if a == 1 || a == b {
		return b
	}
	first := slices.IndexFunc(n.Ands, func(and impl.And) bool { return and.A == a && and.B == b || and.A == b && and.B == a })
	return 2 * (1 + n.Inputs + len(n.Seqs) + first)
}

// hashed is Hash by changes of one AND node at a time: as long as there is one that is used and has
// the value of another literal, that literal takes its place.
func hashed(n impl.Net) impl.Net {
	if !netOk(n) {
		return impl.Net{}
	}
	first := 1 + n.Inputs + len(n.Seqs)
	for changed := true; changed; {
		changed = false
		for _, i := range lastToFirst(len(n.Ands)) {
			lit := instead(n, i)
			if lit == 2*(first+i) || !isUsed(n, first+i) {
				continue
			}
			changed = true
			n = withLiterals(n, n.Ands, func(other int) int {
				switch other {
				case 2 * (first + i):
					return lit
				case 2*(first+i) + 1:
					return opposite(lit)
				}
				return other
			})
		}
	}
	n = swept(n)
	for i, and := range n.Ands {
		n.Ands[i] = impl.And{A: min(and.A, and.B), B: max(and.A, and.B)}
	}
	return n
}

// swept is Sweep by removal of one AND node at a time that nothing uses.
func swept(n impl.Net) impl.Net {
	if !netOk(n) {
		return impl.Net{}
	}
	n = roomy(n)
	for _, i := range lastToFirst(len(n.Ands)) {
		node := 1 + n.Inputs + len(n.Seqs) + i
		if isUsed(n, node) {
			continue
		}
		n = withLiterals(n, slices.Concat(n.Ands[:i], n.Ands[i+1:]), func(lit int) int {
			if lit/2 > node {
				return lit - 2
			}
			return lit
		})
	}
	return n
}

// isHashed is IsHashed by what the document lists; all AND nodes are reached if each one is used.
func isHashed(n impl.Net) bool {
	if !netOk(n) {
		return false
	}
	for i, and := range n.Ands {
		inOrder := and.A > 1 && and.A < and.B && (and.A%2 == 1 || and.B != and.A+1)
		if !inOrder || slices.Contains(n.Ands[:i], and) || !isUsed(n, 1+n.Inputs+len(n.Seqs)+i) {
			return false
		}
	}
	return true
}

// checkHash checks Hash, Sweep and IsHashed for any net.
func checkHash(t *testing.T, what string, n impl.Net) {
	t.Helper()
	if got, want := impl.Hash(n), hashed(n); !sameNet(got, want) {
		t.Errorf("%s: Hash = %v, want %v, of %v", what, got, want, n)
	}
	if got, want := impl.Sweep(n), swept(n); !sameNet(got, want) {
		t.Errorf("%s: Sweep = %v, want %v, of %v", what, got, want, n)
	}
	if got, want := impl.IsHashed(n), isHashed(n); got != want {
		t.Errorf("%s: IsHashed = %v of %v", what, got, n)
	}
}

// checkHashing checks by the results alone that Hash and Sweep keep the runs and the steps of a
// valid net, remove what is redundant and change nothing the second time.
func checkHashing(t *testing.T, what string, n impl.Net, ins []int, pick func(n int) int) {
	t.Helper()
	hash, sweep := impl.Hash(n), impl.Sweep(n)
	if !impl.NetOk(hash) || !impl.IsHashed(hash) || !sameNet(impl.Hash(hash), hash) || !sameNet(impl.Sweep(hash), hash) {
		t.Errorf("%s: Hash = %v of %v is not hashed", what, hash, n)
	}
	if !impl.NetOk(sweep) || slices.Contains(impl.Reached(sweep)[1+n.Inputs+len(n.Seqs):], false) || !sameNet(impl.Sweep(sweep), sweep) {
		t.Errorf("%s: Sweep = %v of %v is not swept", what, sweep, n)
	}
	// Exactly the nets that are hashed stay as they are.
	if got := impl.IsHashed(n); got != sameNet(n, hash) {
		t.Errorf("%s: IsHashed = %v, and Hash = %v, of %v", what, got, hash, n)
	}
	if len(hash.Ands) > len(sweep.Ands) || len(sweep.Ands) > len(n.Ands) || impl.Depth(hash) > impl.Depth(n) || impl.Depth(sweep) != impl.Depth(n) {
		t.Errorf("%s: Hash = %v and Sweep = %v, which are larger or deeper, of %v", what, hash, sweep, n)
	}
	run, st := impl.NetRun(n, ins), someStates(n, pick)
	for _, in := range ins {
		next, outs := impl.NetStep(n, st, in)
		for _, other := range []impl.Net{hash, sweep} {
			otherNext, otherOuts := impl.NetStep(other, st, in)
			if !slices.Equal(otherNext, next) || otherOuts != outs || !slices.Equal(impl.NetRun(other, ins), run) {
				t.Errorf("%s: the run and a step of %v are those of %v no more", what, other, n)
			}
		}
		st = next
	}
}

// checkCopies checks Hash, Sweep and IsHashed of a valid net in all ways.
func checkCopies(t *testing.T, what string, n impl.Net, pick func(n int) int) {
	t.Helper()
	if !impl.NetOk(n) {
		t.Errorf("%s: NetOk is false for %v", what, n)
		return
	}
	checkHash(t, what, n)
	checkHashing(t, what, n, someCycles(6, pick), pick)
}

// copyCase is a net and what is left of it.
type copyCase struct {
	what    string
	n, want impl.Net
}

// checkCopyCases checks the results of Hash or Sweep.
func checkCopyCases(t *testing.T, name string, copied func(n impl.Net) impl.Net, cases []copyCase) {
	t.Helper()
	for _, c := range cases {
		if got := copied(c.n); !sameNet(got, c.want) {
			t.Errorf("%s: %s = %v, want %v, of %v", c.what, name, got, c.want, c.n)
		}
		checkCopies(t, c.what, c.n, picker(102))
		checkCopies(t, c.what, c.want, picker(103))
	}
}

func TestHash(t *testing.T) {
	checkCopyCases(t, "Hash", impl.Hash, []copyCase{
		{"the zero net", impl.Net{}, impl.Net{}},
		{"the sample", impl.SampleNet(), impl.SampleNet()},
		{
			"two equal AND nodes",
			impl.Net{Inputs: 2, Ands: gates(2, 4, 2, 4), Outs: []int{6, 9}},
			impl.Net{Inputs: 2, Ands: gates(2, 4), Outs: []int{6, 7}},
		},
		{
			"the greater literal first",
			impl.Net{Inputs: 2, Ands: gates(4, 2, 5, 3), Outs: []int{6, 9}},
			impl.Net{Inputs: 2, Ands: gates(2, 4, 3, 5), Outs: []int{6, 9}},
		},
		{
			"AND nodes equal but for the order",
			impl.Net{Inputs: 2, Ands: gates(4, 2, 2, 4), Outs: []int{9, 6}},
			impl.Net{Inputs: 2, Ands: gates(2, 4), Outs: []int{7, 6}},
		},
		{
			"constant AND nodes",
			impl.Net{Inputs: 1, Ands: gates(0, 0, 0, 1, 1, 0, 1, 1, 2, 0, 0, 3, 2, 3, 3, 2), Outs: []int{4, 6, 8, 10, 11, 12, 14, 16, 18, 5}},
			impl.Net{Inputs: 1, Outs: []int{0, 0, 0, 1, 0, 0, 0, 0, 0, 1}},
		},
		{
			"AND nodes that are literals",
			impl.Net{Inputs: 2, Ands: gates(1, 2, 3, 1, 4, 4, 5, 5), Outs: []int{6, 7, 8, 9, 10, 11, 12, 13}},
			impl.Net{Inputs: 2, Outs: []int{2, 3, 3, 2, 4, 5, 5, 4}},
		},
		{
			"AND nodes of constant ones",
			impl.Net{Inputs: 2, Ands: gates(1, 1, 7, 2, 6, 4, 7, 6, 13, 5), Outs: []int{8, 10, 12, 15}},
			impl.Net{Inputs: 2, Outs: []int{0, 4, 0, 4}},
		},
		{
			"nodes that no root needs",
			impl.Net{Inputs: 2, Ands: gates(2, 5, 2, 4, 6, 4, 3, 9, 10, 10), Outs: []int{13}},
			impl.Net{Inputs: 2, Ands: gates(2, 4, 3, 7), Outs: []int{9}},
		},
		{
			"no root",
			impl.Net{Inputs: 2, Ands: gates(2, 5, 2, 4, 6, 4)},
			impl.Net{Inputs: 2},
		},
	})
}

// TestHashOfCopies checks nets in which the copies of nodes matter to later nodes or to roots.
func TestHashOfCopies(t *testing.T) {
	checkCopyCases(t, "Hash", impl.Hash, []copyCase{
		{
			"nodes that are equal when their operands are",
			impl.Net{Inputs: 3, Ands: gates(2, 4, 4, 2, 8, 6, 6, 10, 13, 3, 3, 15), Outs: []int{16, 19}},
			impl.Net{Inputs: 3, Ands: gates(2, 4, 6, 8, 3, 11), Outs: []int{12, 13}},
		},
		{
			"a node that is constant when its operands are equal",
			impl.Net{Inputs: 2, Ands: gates(2, 4, 4, 2, 6, 9, 8, 6), Outs: []int{11, 12}},
			impl.Net{Inputs: 2, Ands: gates(2, 4), Outs: []int{1, 6}},
		},
		{
			"nodes in the order of the first equal one, which no root needs",
			impl.Net{Inputs: 2, Ands: gates(2, 4, 2, 5, 4, 2), Outs: []int{8, 10}},
			impl.Net{Inputs: 2, Ands: gates(2, 4, 2, 5), Outs: []int{8, 6}},
		},
		{
			"a flip-flop and a memory of AND nodes",
			impl.Net{Inputs: 1, Seqs: []impl.Seq{flop(1, 11), ram(21, 8, 13, 14, 9)}, Ands: gates(4, 2, 2, 4, 4, 1, 6, 6)},
			impl.Net{Inputs: 1, Seqs: []impl.Seq{flop(1, 9), ram(21, 8, 5, 6, 9)}, Ands: gates(2, 4)},
		},
		{
			"no inputs",
			impl.Net{Seqs: []impl.Seq{flop(0, 9), flop(1, 6)}, Ands: gates(4, 3, 3, 4), Outs: []int{8}},
			impl.Net{Seqs: []impl.Seq{flop(0, 7), flop(1, 6)}, Ands: gates(3, 4), Outs: []int{6}},
		},
		{
			"neither inputs nor sequential elements",
			impl.Net{Ands: gates(1, 1, 2, 1, 3, 3), Outs: []int{4, 6, 7}},
			impl.Net{Outs: []int{1, 0, 1}},
		},
		{
			"no AND nodes",
			impl.Net{Inputs: 2, Seqs: []impl.Seq{ram(31, 6, 2, 5, 1)}, Outs: []int{7, 3, 0}},
			impl.Net{Inputs: 2, Seqs: []impl.Seq{ram(31, 6, 2, 5, 1)}, Outs: []int{7, 3, 0}},
		},
	})
}

func TestSweep(t *testing.T) {
	redundant := gates(4, 2, 2, 4, 2, 4, 2, 2, 0, 3, 1, 1, 2, 3)
	checkCopyCases(t, "Sweep", impl.Sweep, []copyCase{
		{"the zero net", impl.Net{}, impl.Net{}},
		{"all are reached", impl.SampleNet(), impl.SampleNet()},
		{
			"all are reached, also redundant ones",
			impl.Net{Inputs: 2, Ands: redundant, Outs: []int{6, 8, 10, 12, 14, 16, 18}},
			impl.Net{Inputs: 2, Ands: redundant, Outs: []int{6, 8, 10, 12, 14, 16, 18}},
		},
		{
			"none is reached",
			impl.Net{Inputs: 2, Seqs: []impl.Seq{flop(1, 7)}, Ands: gates(2, 4, 8, 6, 10, 10), Outs: []int{5, 0}},
			impl.Net{Inputs: 2, Seqs: []impl.Seq{flop(1, 7)}, Outs: []int{5, 0}},
		},
		{"there is no root", impl.Net{Inputs: 2, Ands: redundant}, impl.Net{Inputs: 2}},
		{
			"the first one is not",
			impl.Net{Inputs: 2, Ands: gates(2, 4, 2, 5, 8, 3), Outs: []int{11, 9}},
			impl.Net{Inputs: 2, Ands: gates(2, 5, 6, 3), Outs: []int{9, 7}},
		},
		{
			"one in the middle is not",
			impl.Net{Inputs: 2, Ands: gates(2, 4, 7, 5, 6, 3), Outs: []int{11, 4}},
			impl.Net{Inputs: 2, Ands: gates(2, 4, 6, 3), Outs: []int{9, 4}},
		},
		{
			"the last one is not",
			impl.Net{Inputs: 2, Ands: gates(2, 4, 7, 5, 6, 3), Outs: []int{8}},
			impl.Net{Inputs: 2, Ands: gates(2, 4, 7, 5), Outs: []int{8}},
		},
		{
			"only others that are not reached have it",
			impl.Net{Inputs: 2, Ands: gates(5, 2, 6, 4, 9, 7, 3, 4), Outs: []int{12, 13}},
			impl.Net{Inputs: 2, Ands: gates(3, 4), Outs: []int{6, 7}},
		},
		{
			"a flip-flop and a memory reach the others",
			impl.Net{Inputs: 1, Seqs: []impl.Seq{flop(0, 13), ram(5, 1, 17, 8, 3)}, Ands: gates(2, 4, 4, 6, 4, 5, 8, 12, 9, 9)},
			impl.Net{Inputs: 1, Seqs: []impl.Seq{flop(0, 11), ram(5, 1, 13, 8, 3)}, Ands: gates(2, 4, 4, 5, 9, 9)},
		},
	})
}

func TestIsHashed(t *testing.T) {
	net := func(outs []int, lits ...int) impl.Net { return impl.Net{Inputs: 3, Ands: gates(lits...), Outs: outs} }
	cases := []struct {
		what string
		n    impl.Net
		want bool
	}{
		{"the zero net", impl.Net{}, true},
		{"the sample", impl.SampleNet(), true},
		{"no AND node", net([]int{7}), true},
		{"nothing is redundant", net([]int{11, 12}, 2, 4, 3, 8, 3, 9), true},
		{"nothing is redundant", net([]int{11, 12}, 2, 4, 3, 8, 5, 9), true},
		{"nothing is redundant", net([]int{12}, 2, 5, 3, 4, 9, 11), true},
		{"not reached at all", net(nil, 2, 4), false},
		{"the first one is not reached", net([]int{10}, 2, 4, 2, 6), false},
		{"the one in the middle is not reached", net([]int{12, 8}, 2, 4, 2, 6, 4, 8), false},
		{"the last one is not reached", net([]int{8, 10}, 2, 4, 2, 6, 4, 8), false},
		{"equal literals", net([]int{8}, 4, 4), false},
		{"equal literals, both odd", net([]int{8}, 5, 5), false},
		{"the greater literal first", net([]int{8}, 4, 2), false},
		{"the greater literal first", net([]int{8}, 7, 3), false},
		{"A is 0", net([]int{8}, 0, 4), false},
		{"A is 1", net([]int{8}, 1, 4), false},
		{"B is 0", net([]int{8}, 4, 0), false},
		{"B is 1", net([]int{8}, 4, 1), false},
		{"A is 2", net([]int{8}, 2, 7), true},
		{"complements", net([]int{8}, 4, 5), false},
		{"complements, the greater one first", net([]int{8}, 5, 4), false},
		{"complements of an AND node", net([]int{10}, 2, 4, 8, 9), false},
		{"B is A + 1, and A is odd", net([]int{8}, 3, 4), true},
		{"B is A + 1, and A is odd", net([]int{8}, 5, 6), true},
		{"B is A + 2", net([]int{8, 10}, 4, 6, 3, 5), true},
		{"B is A + 3", net([]int{8}, 4, 7), true},
		{"equal AND nodes", net([]int{8, 10}, 2, 4, 2, 4), false},
		{"equal AND nodes apart", net([]int{8, 10, 12}, 2, 4, 2, 5, 2, 4), false},
		{"AND nodes with one equal literal", net([]int{8, 10, 12}, 2, 4, 2, 5, 3, 4), true},
		{"AND nodes with exchanged literals", net([]int{8, 10}, 2, 4, 4, 2), false},
		{"only In reaches it", impl.Net{Inputs: 2, Seqs: []impl.Seq{flop(0, 9)}, Ands: gates(2, 6)}, true},
		{"only In reaches it", impl.Net{Inputs: 2, Seqs: []impl.Seq{ram(0, 2, 4, 6, 8)}, Ands: gates(2, 6)}, true},
		{"In does not reach it", impl.Net{Inputs: 2, Seqs: []impl.Seq{ram(0, 2, 4, 6, 7)}, Ands: gates(2, 6)}, false},
		{"an invalid net", net([]int{10}, 2, 4), false},
	}
	for _, c := range cases {
		if got := impl.IsHashed(c.n); got != c.want {
			t.Errorf("%s: IsHashed = %v of %v", c.what, got, c.n)
		}
		checkHash(t, c.what, c.n)
	}
}

func TestHashingOfAllSmallNets(t *testing.T) {
	pick := picker(104)
	eachSmallNet(func(n impl.Net) {
		checkHash(t, "a small net", n)
		checkHashing(t, "a small net", n, []int{pick(2), pick(2), pick(2)}, pick)
	})
}

// TestHashingInAllStates checks all nets with an input, a flip-flop, two AND nodes and an output in
// all states and for all inputs.
func TestHashingInAllStates(t *testing.T) {
	limits := []int{5, 5, 7, 7, 9, 9}
	x := make([]int, len(limits))
	alike := 0
	for more := true; more; more = countUp(x, limits) {
		n := impl.Net{Inputs: 1, Seqs: []impl.Seq{flop(1, x[4])}, Ands: gates(x[:4]...), Outs: x[5:]}
		hash, sweep := impl.Hash(n), impl.Sweep(n)
		eachState(n, func(st []int, in int) {
			next, outs := impl.NetStep(n, st, in)
			for _, other := range []impl.Net{hash, sweep} {
				if otherNext, otherOuts := impl.NetStep(other, st, in); !slices.Equal(otherNext, next) || otherOuts != outs {
					t.Errorf("the step of %v is %v, %d, and that of %v is %v, %d", n, next, outs, other, otherNext, otherOuts)
				}
			}
		})
		checkHash(t, "a small net", n)
		if !impl.IsHashed(hash) || impl.IsHashed(n) != sameNet(n, hash) {
			t.Errorf("IsHashed = %v for %v and %v for %v", impl.IsHashed(n), n, impl.IsHashed(hash), hash)
		}
		alike += asNumber(impl.IsHashed(n))
	}
	if alike < 200 {
		t.Error("only", alike, "nets are hashed")
	}
}

// TestHashingAtLimits checks nets without inputs, without sequential elements, without AND nodes and
// without outputs, and with as many as there may be.
func TestHashingAtLimits(t *testing.T) {
	pick := picker(105)
	for _, inputs := range []int{0, 1, 20} {
		for _, seqs := range []int{0, 1, 12} {
			for _, ands := range []int{0, 1, 2, 300} {
				for _, outs := range []int{0, 1, 16} {
					for near := 1; near <= 31; near += 10 {
						checkCopies(t, "a limit", someNet(inputs, seqs, ands, outs, near, pick), pick)
					}
				}
			}
		}
	}
}

// TestHashingOfScatteredNets checks scattered nets; enough of them must have nodes that are equal and
// nodes that are not reached.
func TestHashingOfScatteredNets(t *testing.T) {
	pick := picker(106)
	unreached, redundant, clean := 0, 0, 0
	for range 1500 {
		n := someNet(pick(5), pick(4), pick(12), pick(6), 1+pick(3), pick)
		checkCopies(t, "a scattered net", n, pick)
		checkCopies(t, "a hashed net", impl.Hash(n), pick)
		hash, sweep := len(impl.Hash(n).Ands), len(impl.Sweep(n).Ands)
		unreached += asNumber(sweep < len(n.Ands))
		redundant += asNumber(hash < sweep)
		clean += asNumber(hash == len(n.Ands) && hash > 1)
	}
	if unreached < 300 || redundant < 300 || clean < 10 {
		t.Error("only", unreached, redundant, clean, "nets of a sort")
	}
}

// TestHashingOfLongChains checks nets in which each AND node has the literal of the node before it:
// all of them are needed, or they are equal to others or constant.
func TestHashingOfLongChains(t *testing.T) {
	pick := picker(107)
	cases := []struct {
		what  string
		pair  func(before int, i int) (int, int)
		nodes int
	}{
		{"inputs in turn", func(before int, i int) (int, int) { return 2 + i%4, before + i%2 }, 300},
		{"the greater literal first", func(before int, i int) (int, int) { return before + 1, 4 }, 300},
		{"the two nodes before", func(before int, i int) (int, int) { return before - 2, before + 1 }, 300},
		{"equal literals", func(before int, i int) (int, int) { return before + 1, before + 1 }, 0},
		{"1", func(before int, i int) (int, int) { return before + i%2, 1 }, 0},
		{"complements", func(before int, i int) (int, int) { return before + 1, before }, 0},
		{"0", func(before int, i int) (int, int) { return 0, before }, 0},
		{"the same literals", func(before int, i int) (int, int) { return 5, 3 }, 1},
	}
	for _, c := range cases {
		n := impl.Net{Inputs: 3, Seqs: []impl.Seq{flop(1, 4), ram(7, 606, 609, 2, 1)}, Outs: []int{611, 10, 610}}
		for i := range 300 {
			n.Ands = append(n.Ands, gates(c.pair(10+2*i, i))...)
		}
		if got := len(impl.Hash(n).Ands); got != c.nodes {
			t.Errorf("%s: Hash leaves %d AND nodes, want %d", c.what, got, c.nodes)
		}
		checkCopies(t, c.what, n, pick)
	}
	// The AND nodes of a pair are equal if those of the pair before are.
	n := impl.Net{Inputs: 2, Ands: gates(2, 4, 4, 2), Outs: []int{604, 603}}
	for i := range 149 {
		n.Ands = append(n.Ands, gates(7+4*i, 2, 2, 9+4*i)...)
	}
	if got := len(impl.Hash(n).Ands); got != 150 {
		t.Error("Hash leaves", got, "AND nodes of 150 equal pairs")
	}
	checkCopies(t, "equal pairs", n, pick)
}

// TestHashingOfChangedNets changes one number or one length of a net at a time.
func TestHashingOfChangedNets(t *testing.T) {
	pick := picker(108)
	valid, invalid := 0, 0
	for _, n := range []impl.Net{
		impl.SampleNet(), smallNet(), {Inputs: 3, Seqs: []impl.Seq{flop(1, 14), ram(30, 2, 13, 4, 16)}, Ands: gates(2, 5, 9, 12, 10, 14), Outs: []int{17, 1}},
	} {
		eachChange(n, manyNumbers(), func(what string, n impl.Net) {
			if impl.NetOk(n) {
				valid++
				checkCopies(t, what, n, pick)
			} else {
				invalid++
				checkHash(t, what, n)
			}
			for _, g := range fourGates() {
				checkGate(t, what, g, n, []int{2, 4, 6}[:g.operands])
				checkGate(t, what, g, n, []int{13, 8, 5}[:g.operands])
			}
		})
	}
	if valid < 300 || invalid < 300 {
		t.Error("only", valid, "valid nets and", invalid, "others")
	}
}

// checkOwnHash checks that no function of Chapter 10 changes its argument, or shares memory with it
// or within its result.
func checkOwnHash(t *testing.T, original impl.Net, operands ...[]int) {
	t.Helper()
	n := roomy(original)
	nets := []impl.Net{impl.Hash(n), impl.Hash(n), impl.Sweep(n), impl.Sweep(n)}
	impl.IsHashed(n)
	for _, g := range fourGates() {
		for _, x := range operands {
			got, _ := g.add(n, x[:g.operands])
			nets = append(nets, got)
		}
	}
	if sharesMemory(n, nets) {
		t.Errorf("results share memory, for %v", original)
	}
	overwrite(reflect.ValueOf(nets))
	if !untouched(n, roomy(original)) {
		t.Errorf("%v was changed to %v", original, n)
	}
}

func TestHashMemory(t *testing.T) {
	pick := picker(109)
	for range 30 {
		n := someNet(1+pick(20), pick(13), pick(20), pick(17), 1+pick(3), pick)
		checkOwnHash(t, n, operandsOfNet()...)
		checkOwnHash(t, impl.Hash(n), operandsOfNet()...)
		n.Outs = append(n.Outs, -1)
		checkOwnHash(t, n, operandsOfNet()...)
	}
	for _, n := range invalidNets() {
		checkOwnHash(t, n, operandsOfNet()...)
	}
	for _, n := range []impl.Net{{}, {Inputs: math.MinInt64}, {Outs: []int{}}, {Ands: gates(-1, 5)}, impl.SampleNet(), smallNet(), netOfLengths(3, 2, 298, 4), netOfLengths(3, 2, 299, 4), netOfLengths(3, 2, 300, 4)} {
		checkOwnHash(t, n, operandsOfNet()...)
	}
	// Parts of one argument may share memory; those of a result do not.
	same := []int{2, 6, 3, 1}
	n := impl.Net{Inputs: 2, Seqs: []impl.Seq{ram(3, same...), ram(4, same...)}, Outs: same}
	n.Seqs[0].In, n.Seqs[1].In = same, same
	for _, n := range []impl.Net{n, {Inputs: -1, Seqs: n.Seqs, Outs: same}} {
		added, _ := impl.AddXor(n, 2, 4)
		unchanged, _ := impl.AddAnd(n, -1, 2)
		if sharesMemory(same, added, unchanged, impl.Hash(n), impl.Sweep(n)) {
			t.Error("results share memory where the argument does")
		}
		if impl.NetOk(n) && (!sameNet(impl.Hash(n), n) || len(added.Ands) != 3) || !sameNet(unchanged, n) {
			t.Error("Hash =", impl.Hash(n), "and AddXor =", added)
		}
	}
	if !slices.Equal(same, []int{2, 6, 3, 1}) {
		t.Error("the argument was changed to", same)
	}
}
