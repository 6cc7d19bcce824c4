package tests

import (
	"fmt"
	"math"
	"reflect"
	"slices"
	"strings"
	"testing"

	"loop.example/g03311/impl"
)

// packable reports whether words of the given widths can be packed.
func packable(widths []int) bool {
	total := 0
	for _, width := range widths {
		if !slices.Contains([]int{1, 2, 3, 4}, width) {
			return false
		}
		total += width
	}
	return total <= 20
}

// packedWords is PackBits by a list of all bits.
func packedWords(widths []int, words []int) int {
	if len(widths) != len(words) || !packable(widths) {
		return -1
	}
	var bits []int
	for i, width := range widths {
		bits = append(bits, bitList(words[i], width)...)
	}
	return numberOf(bits)
}

// unpackedWords is UnpackBits by a list of all bits.
func unpackedWords(widths []int, bits int) []int {
	if !packable(widths) {
		return nil
	}
	var words []int
	rest := bitList(bits, 20)
	for _, width := range widths {
		words = append(words, numberOf(rest[:width]))
		rest = rest[width:]
	}
	return words
}

// checkUnpacking checks UnpackBits for any arguments, and that PackBits inverts it.
func checkUnpacking(t *testing.T, widths []int, bits int) {
	t.Helper()
	words := impl.UnpackBits(widths, bits)
	if want := unpackedWords(widths, bits); !slices.Equal(words, want) {
		t.Errorf("UnpackBits(%v, %d) = %v, want %v", widths, bits, words, want)
	}
	if !packable(widths) {
		return
	}
	total := 0
	for _, width := range widths {
		total += width
	}
	if got := impl.PackBits(widths, words); got != modulo(bits, total) {
		t.Errorf("PackBits(%v, %v) = %d after UnpackBits of %d", widths, words, got, bits)
	}
}

// checkPacking checks PackBits for any arguments, and that UnpackBits inverts it.
func checkPacking(t *testing.T, widths []int, words []int) {
	t.Helper()
	bits := impl.PackBits(widths, words)
	if want := packedWords(widths, words); bits != want {
		t.Errorf("PackBits(%v, %v) = %d, want %d", widths, words, bits, want)
	}
	for _, other := range append([]int{bits, -1 - bits}, words...) {
		checkUnpacking(t, widths, other)
	}
	if len(widths) != len(words) || !packable(widths) {
		return
	}
	back := impl.UnpackBits(widths, bits)
	for i, width := range widths {
		if back[i] != modulo(words[i], width) {
			t.Errorf("UnpackBits(%v, %d) = %v after PackBits of %v", widths, bits, back, words)
		}
	}
}

func TestPackBits(t *testing.T) {
	least, greatest := math.MinInt64, math.MaxInt64
	cases := []struct {
		widths []int
		words  []int
		want   int
	}{
		{nil, nil, 0},
		{[]int{}, nil, 0},
		{nil, []int{}, 0},
		{[]int{1}, []int{1}, 1},
		{[]int{1}, []int{2}, 0},
		{[]int{1, 2}, []int{1, 2}, 5},
		{[]int{2, 1}, []int{1, 2}, 1},
		{[]int{4}, []int{15}, 15},
		{[]int{4}, []int{16}, 0},
		{[]int{4}, []int{-1}, 15},
		{[]int{3}, []int{-4}, 4},
		{[]int{3, 3}, []int{9, -9}, 57},
		{[]int{2, 3, 4}, []int{-1, 0, -1}, 483},
		{[]int{4, 4, 4, 4, 4}, []int{1, 2, 3, 4, 5}, 344865},
		{[]int{4, 4, 4, 4, 4}, []int{15, -1, 31, greatest, -17}, 1<<20 - 1},
		{[]int{1, 2, 3, 4}, []int{least, greatest, least, greatest}, 966},
		{slices.Repeat([]int{1}, 20), slices.Repeat([]int{0, 1}, 10), 699050},
		{slices.Repeat([]int{1}, 21), slices.Repeat([]int{1}, 21), -1},
		{[]int{4, 4, 4, 4, 3, 1}, []int{0, 0, 0, 0, 0, 1}, 1 << 19},
		{[]int{4, 4, 4, 4, 3, 2}, make([]int, 6), -1},
		{[]int{4, 4, 4, 4, 4, 1}, make([]int, 6), -1},
		{[]int{1, 4, 4, 4, 4, 4}, make([]int, 6), -1},
		{[]int{0}, []int{0}, -1},
		{[]int{5}, []int{0}, -1},
		{[]int{-1}, []int{0}, -1},
		{[]int{1}, nil, -1},
		{nil, []int{0}, -1},
		{[]int{1, 1}, []int{1}, -1},
		{[]int{1}, []int{1, 1}, -1},
	}
	for _, c := range cases {
		if got := impl.PackBits(c.widths, c.words); got != c.want {
			t.Errorf("PackBits(%v, %v) = %d, want %d", c.widths, c.words, got, c.want)
		}
		checkPacking(t, c.widths, c.words)
	}
}

func TestUnpackBits(t *testing.T) {
	fours := []int{4, 4, 4, 4, 4}
	cases := []struct {
		widths []int
		bits   int
		want   []int
	}{
		{nil, 7, nil},
		{[]int{1, 2}, 5, []int{1, 2}},
		{[]int{2, 1}, 5, []int{1, 1}},
		{[]int{1, 2}, -1, []int{1, 3}},
		{[]int{1, 2}, 8, []int{0, 0}},
		{[]int{1, 2}, 15, []int{1, 3}},
		{[]int{4, 4}, -16, []int{0, 15}},
		{[]int{3, 4, 2}, 483, []int{3, 12, 3}},
		{fours, 344865, []int{1, 2, 3, 4, 5}},
		{fours, 344865 - 1<<20, []int{1, 2, 3, 4, 5}},
		{fours, 344865 + 1<<40, []int{1, 2, 3, 4, 5}},
		{fours, math.MinInt64, []int{0, 0, 0, 0, 0}},
		{fours, math.MaxInt64, []int{15, 15, 15, 15, 15}},
		{fours, math.MinInt64 + 33, []int{1, 2, 0, 0, 0}},
		{append(fours, 1), 0, nil},
		{[]int{3, 0, 2}, 9, nil},
		{[]int{3, 5, 2}, 9, nil},
		{[]int{math.MinInt64}, 9, nil},
	}
	for _, c := range cases {
		if got := impl.UnpackBits(c.widths, c.bits); !slices.Equal(got, c.want) {
			t.Errorf("UnpackBits(%v, %d) = %v, want %v", c.widths, c.bits, got, c.want)
		}
		checkUnpacking(t, c.widths, c.bits)
	}
}

// TestPackingOfAllSmallWords checks all bits of up to three words of all widths, and words around
// their ranges.
func TestPackingOfAllSmallWords(t *testing.T) {
	for length := range 4 {
		for _, widths := range sequences([]int{1, 2, 3, 4}, length) {
			total := 0
			for _, width := range widths {
				total += width
			}
			for bits := -3; bits <= 1<<total; bits++ {
				checkUnpacking(t, widths, bits)
			}
			if length < 3 {
				for _, words := range sequences([]int{-17, -16, -9, -2, -1, 0, 1, 2, 3, 6, 7, 8, 9, 15, 16, 17}, length) {
					checkPacking(t, widths, words)
				}
			}
			for _, bits := range extremes() {
				checkUnpacking(t, widths, bits)
				checkPacking(t, widths, slices.Repeat([]int{bits}, length))
			}
		}
	}
}

func TestPackingOfOddWidths(t *testing.T) {
	for length := 1; length <= 4; length++ {
		for place := range length {
			for _, width := range extremes() {
				widths := slices.Repeat([]int{3}, length)
				widths[place] = width
				got, words := impl.PackBits(widths, make([]int, length)), impl.UnpackBits(widths, 0)
				if ok := width >= 1 && width <= 4; (got == 0) != ok || (got == -1) == ok || (len(words) == length) != ok {
					t.Errorf("PackBits = %d and UnpackBits = %v with the widths %v", got, words, widths)
				}
				checkPacking(t, widths, make([]int, length))
			}
		}
	}
	// Their sums are small, and some only because int wraps around.
	for _, widths := range [][]int{{5, -4}, {21, -20}, {0, 0}, {-1}, {math.MaxInt64, math.MaxInt64, 4}, {math.MinInt64, math.MinInt64}, {math.MinInt64, math.MinInt64, 1}} {
		if got := impl.PackBits(widths, make([]int, len(widths))); got != -1 {
			t.Errorf("PackBits = %d with the widths %v", got, widths)
		}
		if got := impl.UnpackBits(widths, 1); got != nil {
			t.Errorf("UnpackBits = %v with the widths %v", got, widths)
		}
	}
}

func TestPackingOfManyWords(t *testing.T) {
	for width := 1; width <= 4; width++ {
		for count := range 200 {
			widths := slices.Repeat([]int{width}, count)
			bits, words := impl.PackBits(widths, slices.Repeat([]int{-1}, count)), impl.UnpackBits(widths, -1)
			if width*count <= 20 && (bits != 1<<(width*count)-1 || len(words) != count) || width*count > 20 && (bits != -1 || words != nil) {
				t.Errorf("PackBits = %d and UnpackBits = %v of %d words of width %d", bits, words, count, width)
			}
			for other := range 30 {
				if got := impl.PackBits(widths, make([]int, other)); other != count && got != -1 {
					t.Errorf("PackBits = %d of %d widths and %d words", got, count, other)
				}
			}
		}
	}
	pick := picker(111)
	for range 3000 {
		var widths, words []int
		for range pick(10) {
			widths, words = append(widths, 1+pick(4)), append(words, pick(64)-32)
		}
		checkPacking(t, widths, words)
		checkUnpacking(t, widths, someCycles(1, pick)[0])
	}
}

// building is a net to which gates are added with the functions of Chapter 10, one by one.
type building struct {
	net impl.Net
	// full tells that a gate did not fit.
	full bool
}

// with takes over what one of these functions has returned.
func (b *building) with(n impl.Net, lit int) int {
	b.net, b.full = n, b.full || lit == -1
	return lit
}

// value adds an expression and returns the bits of its value.
func (b *building) value(signals [][]int, ops []impl.Op, width int) []int {
	var x [][]int
	for start := 1; start < len(ops); {
		end := endOfExpression(ops, start)
		x = append(x, b.value(signals, ops[start:end], width))
		start = end
	}
	bits := make([]int, width)
	switch o := ops[0]; o.Kind {
	case 0:
		copy(bits, bitList(o.A, width))
	case 2:
		copy(bits, signals[o.A])
	case 3:
		bits[0] = append(slices.Clone(signals[o.A]), 0, 0, 0, 0)[o.B]
	default:
		b.operate(o.Kind, bits, x)
	}
	return bits
}

// operate adds an operator that has operands and sets the bits of its value.
func (b *building) operate(kind int, bits []int, x [][]int) {
	carry := map[int]int{9: 1, 10: 1}[kind]
	if kind == 12 {
		for _, bit := range x[0] {
			carry = b.with(impl.AddOr(b.net, carry, bit))
		}
	}
	for k := range bits {
		switch kind {
		case 4:
			bits[k] = opposite(x[0][k])
		case 5:
			bits[k] = b.with(impl.AddAnd(b.net, x[0][k], x[1][k]))
		case 6:
			bits[k] = b.with(impl.AddOr(b.net, x[0][k], x[1][k]))
		case 7:
			bits[k] = b.with(impl.AddXor(b.net, x[0][k], x[1][k]))
		case 8:
			bits[k], carry = b.addBit(x[0][k], x[1][k], carry, k == len(bits)-1)
		case 9:
			bits[k], carry = b.addBit(x[0][k], opposite(x[1][k]), carry, k == len(bits)-1)
		case 10:
			differ := b.with(impl.AddXor(b.net, x[0][k], x[1][k]))
			carry = b.with(impl.AddAnd(b.net, carry, opposite(differ)))
		case 11:
			differ := b.with(impl.AddXor(b.net, x[0][k], x[1][k]))
			carry = b.with(impl.AddMux(b.net, differ, x[1][k], carry))
		case 12:
			bits[k] = b.with(impl.AddMux(b.net, carry, x[1][k], x[2][k]))
		}
	}
	if kind == 10 || kind == 11 {
		bits[0] = carry
	}
}

// addBit adds the sum of two bits and a carry, and the new carry unless the bits are the last ones.
func (b *building) addBit(x int, y int, carry int, last bool) (int, int) {
	half := b.with(impl.AddXor(b.net, x, y))
	bit := b.with(impl.AddXor(b.net, half, carry))
	if last {
		return bit, carry
	}
	p := b.with(impl.AddAnd(b.net, x, y))
	q := b.with(impl.AddAnd(b.net, half, carry))
	return bit, b.with(impl.AddOr(b.net, p, q))
}

// addExpression is AddExpr by these gates.
func addExpression(n impl.Net, signals [][]int, ops []impl.Op, width int) (impl.Net, []int) {
	isParam := func(o impl.Op) bool { return o.Kind == 1 }
	tooLong := func(lits []int) bool { return len(lits) > 4 }
	if len(signals) > 30 || slices.ContainsFunc(signals, tooLong) || !hasLiterals(n, slices.Concat(signals...)...) {
		return n, nil
	}
	if !expressionOk(ops, len(signals)) || slices.ContainsFunc(ops, isParam) || !slices.Contains([]int{1, 2, 3, 4}, width) {
		return n, nil
	}
	b := building{net: n}
	bits := b.value(signals, ops, width)
	if b.full {
		return n, nil
	}
	return b.net, bits
}

// checkAddExpr checks AddExpr for any arguments and returns its result.
func checkAddExpr(t *testing.T, what string, n impl.Net, signals [][]int, ops []impl.Op, width int) (impl.Net, []int) {
	t.Helper()
	got, bits := impl.AddExpr(n, signals, ops, width)
	if want, wantBits := addExpression(n, signals, ops, width); !sameNet(got, want) || !slices.Equal(bits, wantBits) {
		t.Errorf("%s: AddExpr = %v, %v, want %v, %v, for %v of %v in the width %d and %v", what, got, bits, want, wantBits, ops, signals, width, n)
	}
	return got, bits
}

// checkNoExpr checks that AddExpr leaves a net unchanged and returns no literals.
func checkNoExpr(t *testing.T, what string, n impl.Net, signals [][]int, ops []impl.Op, width int) {
	t.Helper()
	if got, bits := impl.AddExpr(n, signals, ops, width); !sameNet(got, n) || bits != nil {
		t.Errorf("%s: AddExpr = %v, %v, for %v of %v in the width %d and %v", what, got, bits, ops, signals, width, n)
	}
	checkAddExpr(t, what, n, signals, ops, width)
}

// checkExprBits checks by the results alone that an expression has the bits of its value and that
// all else of a valid net stays as it is, in one state.
func checkExprBits(t *testing.T, what string, n impl.Net, signals [][]int, ops []impl.Op, got impl.Net, bits []int, st []int, in int) {
	t.Helper()
	values := impl.NodeValues(got, st, in)
	var words []int
	for _, lits := range signals {
		words = append(words, packed(values, lits))
	}
	if value, want := packed(values, bits), impl.ExprValue(ops, words, len(bits)); value != want {
		t.Errorf("%s: the literals %v have the bits of %d, and %v of %v is %d", what, bits, value, ops, words, want)
	}
	next, outs := impl.NetStep(n, st, in)
	if gotNext, gotOuts := impl.NetStep(got, st, in); !slices.Equal(next, gotNext) || outs != gotOuts || !slices.Equal(values[:nodeCount(n)], impl.NodeValues(n, st, in)) {
		t.Errorf("%s: a step of %v is not that of %v", what, got, n)
	}
}

// checkExprOfInputs checks an expression in all widths, where the signals are the inputs of a net,
// for all their values.
func checkExprOfInputs(t *testing.T, ops []impl.Op, lengths ...int) {
	t.Helper()
	n := impl.Net{}
	var signals [][]int
	for _, length := range lengths {
		var lits []int
		for range length {
			n.Inputs++
			lits = append(lits, 2*n.Inputs)
		}
		signals = append(signals, lits)
	}
	for width := 1; width <= 4; width++ {
		got, bits := checkAddExpr(t, "inputs", n, signals, ops, width)
		if len(bits) != width {
			t.Errorf("%d literals for the width %d of %v", len(bits), width, ops)
		}
		for in := range 1 << n.Inputs {
			checkExprBits(t, "inputs", n, signals, ops, got, bits, nil, in)
		}
	}
}

// TestExprOfAllValues checks each operator for all values of signals with up to four bits each.
func TestExprOfAllValues(t *testing.T) {
	zero, one, two := readSignal(0), readSignal(1), readSignal(2)
	for a := range 5 {
		checkExprOfInputs(t, []impl.Op{zero}, a)
		checkExprOfInputs(t, []impl.Op{operator(impl.OpNot), zero}, a)
		for b := range 5 {
			checkExprOfInputs(t, []impl.Op{{Kind: impl.OpBit, A: 0, B: b % 4}}, a)
			checkExprOfInputs(t, []impl.Op{{Kind: impl.OpBit, A: 1, B: b % 4}}, 3, a)
			for kind := impl.OpAnd; kind <= impl.OpLess; kind++ {
				checkExprOfInputs(t, []impl.Op{operator(kind), zero, one}, a, b)
				checkExprOfInputs(t, []impl.Op{operator(kind), one, zero}, a, b)
			}
			for c := range 5 {
				checkExprOfInputs(t, []impl.Op{operator(impl.OpMux), two, zero, one}, b, c, a)
			}
		}
		for value := range 16 {
			checkExprOfInputs(t, []impl.Op{constant(value)})
			for kind := impl.OpAnd; kind <= impl.OpLess; kind++ {
				checkExprOfInputs(t, []impl.Op{operator(kind), constant(value), zero}, a)
				checkExprOfInputs(t, []impl.Op{operator(kind), zero, constant(value)}, a)
				checkExprOfInputs(t, []impl.Op{operator(kind), constant(value), constant(3 * a)})
				checkExprOfInputs(t, []impl.Op{operator(kind), zero, zero}, a)
			}
			checkExprOfInputs(t, []impl.Op{operator(impl.OpMux), constant(value), zero, one}, a, 4)
			checkExprOfInputs(t, []impl.Op{operator(impl.OpMux), zero, constant(value), one}, a, 2)
			checkExprOfInputs(t, []impl.Op{operator(impl.OpMux), zero, one, constant(value)}, a, 3)
		}
	}
}

func TestExprOfAllShapes(t *testing.T) {
	n := smallNet()
	signals := [][]int{{2, 4, 6, 8}, {10, 3}, nil, {13, 1, 5}, {9, 9, 0, 12}}
	pick := picker(112)
	check := func(ops []impl.Op) {
		for width := range 6 {
			got, bits := checkAddExpr(t, "a shape", n, signals, ops, width)
			if len(bits) > 0 {
				checkExprBits(t, "a shape", n, signals, ops, got, bits, someStates(n, pick), pick(4))
			}
		}
	}
	for length := range 4 {
		for _, kinds := range sequences(upTo(13), length) {
			check(leaves(expression(kinds...)))
		}
	}
	for length := 4; length <= 6; length++ {
		for _, kinds := range sequences([]int{impl.OpSignal, impl.OpNot, impl.OpAdd, impl.OpMux}, length) {
			check(leaves(expression(kinds...)))
		}
	}
	for length := 1; length <= 21; length += 2 {
		for _, ops := range longExpressions(length) {
			check(ops)
			ops[length-1] = readSignal(3)
			check(ops)
			if _, bits := impl.AddExpr(n, signals, ops, 4); (len(bits) == 4) != (length <= 15) {
				t.Errorf("AddExpr returns %v for %d operators", bits, length)
			}
		}
	}
	checkNoExpr(t, "a very long list", n, signals, slices.Repeat([]impl.Op{operator(impl.OpMux)}, 100000), 1)
}

// sixInputs is a net with the inputs 2 to 12, and sixSignals are three signals of two bits each.
func sixInputs() (impl.Net, [][]int) {
	return impl.Net{Inputs: 6, Outs: []int{3}}, [][]int{{2, 4}, {6, 8}, {10, 12}}
}

// TestOrderOfAddedNodes checks the AND nodes of each operator, the first of which is 14.
func TestOrderOfAddedNodes(t *testing.T) {
	cases := []struct {
		text  string
		width int
		added []impl.And
		bits  []int
	}{
		{"2", 3, nil, []int{0, 1, 0}},
		{"s1", 2, nil, []int{6, 8}},
		{"s1", 1, nil, []int{6}},
		{"s1", 4, nil, []int{6, 8, 0, 0}},
		{"s1.1", 1, nil, []int{8}},
		{"s1.1", 3, nil, []int{8, 0, 0}},
		{"s1.2", 3, nil, []int{0, 0, 0}},
		{"~ s1", 3, nil, []int{7, 9, 1}},
		{"~ s1.1", 3, nil, []int{9, 1, 1}},
		{"& s0 s1", 2, gates(2, 6, 4, 8), []int{14, 16}},
		{"& s1 s0", 3, gates(2, 6, 4, 8), []int{14, 16, 0}},
		{"| s0 s1", 2, gates(3, 7, 5, 9), []int{15, 17}},
		{"^ s0 s1", 1, gates(2, 7, 3, 6, 15, 17), []int{19}},
		{"^ s0 s1", 2, gates(2, 7, 3, 6, 15, 17, 4, 9, 5, 8, 21, 23), []int{19, 25}},
		{"^ s1 s0", 1, gates(3, 6, 2, 7, 15, 17), []int{19}},
		{"+ s0 s1", 1, gates(2, 7, 3, 6, 15, 17), []int{19}},
		{"+ s0 s1", 2, gates(2, 7, 3, 6, 15, 17, 2, 6, 4, 9, 5, 8, 23, 25, 21, 27, 20, 26, 29, 31), []int{19, 33}},
		{"+ s0 s1", 3, gates(2, 7, 3, 6, 15, 17, 2, 6, 4, 9, 5, 8, 23, 25, 21, 27, 20, 26, 29, 31, 4, 8, 20, 27, 35, 37), []int{19, 33, 39}},
		{"- s0 s1", 1, gates(2, 6, 3, 7, 15, 17), []int{18}},
		{"- s0 s1", 2, gates(2, 6, 3, 7, 15, 17, 2, 7, 18, 21, 4, 8, 5, 9, 25, 27, 22, 29, 23, 28, 31, 33), []int{18, 35}},
		{"= s0 s1", 1, gates(2, 7, 3, 6, 15, 17), []int{18}},
		{"= s0 s1", 2, gates(2, 7, 3, 6, 15, 17, 4, 9, 5, 8, 21, 23, 18, 24), []int{26, 0}},
		{"< s0 s1", 1, gates(2, 7, 3, 6, 15, 17, 6, 19), []int{20}},
		{"< s0 s1", 2, gates(2, 7, 3, 6, 15, 17, 6, 19, 4, 9, 5, 8, 23, 25, 8, 27, 20, 26, 29, 31), []int{33, 0}},
		{"? s0 s1 s2", 1, gates(2, 6, 3, 10, 15, 17), []int{19}},
		{"? s0 s1 s2", 2, gates(3, 5, 6, 15, 10, 14, 17, 19, 8, 15, 12, 14, 23, 25), []int{21, 27}},
		{"? 1 s1 s2", 2, nil, []int{6, 8}},
		{"? 2 s1 s2", 1, nil, []int{10}},
		// The operands come first, in order, and each one with all its bits.
		{"& & s0 s1 | s1 s2", 2, gates(2, 6, 4, 8, 7, 11, 9, 13, 14, 19, 16, 21), []int{22, 24}},
		{"& | s1 s2 & s0 s1", 2, gates(7, 11, 9, 13, 2, 6, 4, 8, 15, 18, 17, 20), []int{22, 24}},
		{"? & s0 s1 | s1 s2 & s0 s2", 1, gates(2, 6, 7, 11, 2, 10, 14, 17, 15, 18, 21, 23), []int{25}},
		{"~ & ~ s0 ~ s1", 2, gates(3, 7, 5, 9), []int{15, 17}},
		// What is there already is not added again.
		{"^ & s0 s1 & s1 s0", 2, gates(2, 6, 4, 8), []int{0, 0}},
		{"| & s0 s1 ~ & s0 s1", 2, gates(2, 6, 4, 8), []int{1, 1}},
	}
	for _, c := range cases {
		n, signals := sixInputs()
		want := n
		want.Ands = c.added
		if got, bits := impl.AddExpr(n, signals, words(t, c.text), c.width); !sameNet(got, want) || !slices.Equal(bits, c.bits) {
			t.Errorf("AddExpr of %q in the width %d = %v, %v, want %v, %v", c.text, c.width, got, bits, want, c.bits)
		}
		got, bits := checkAddExpr(t, c.text, n, signals, words(t, c.text), c.width)
		for in := range 64 {
			checkExprBits(t, c.text, n, signals, words(t, c.text), got, bits, nil, in)
		}
	}
}

// TestExprOfFullNets checks nets with as many AND nodes that the last gate of an expression fits, and
// with more.
func TestExprOfFullNets(t *testing.T) {
	inputs, signals := sixInputs()
	for _, text := range []string{
		"& s0 s1", "| s1 s2", "^ s0 s2", "+ s0 s1", "- s2 s0", "= s0 s1", "< s1 s2", "? s0 s1 s2", "& + s0 s1 5", "? = s0 s2 - s1 s0 < s1 s2",
		"? & s0 s1 0 1", "= & s0 s1 0", "< 0 & s1 s0", "+ 0 ~ ^ s0 s1", "| ~ & s0 s1 | s1 s2", "~ s0", "7",
	} {
		for width := 1; width <= 4; width++ {
			ops := words(t, text)
			alone, _ := impl.AddExpr(inputs, signals, ops, width)
			needed := len(alone.Ands)
			for count := 300 - min(needed+2, 300); count <= 300; count++ {
				n := netOfLengths(6, 0, count, 1)
				if count+needed > 300 {
					checkNoExpr(t, "a full net", n, signals, ops, width)
					continue
				}
				got, bits := checkAddExpr(t, "a nearly full net", n, signals, ops, width)
				if len(bits) != width || len(got.Ands) != count+needed {
					t.Errorf("%d literals and %d AND nodes for %q in the width %d, after %d", len(bits), len(got.Ands), text, width, count)
				}
			}
			// Where all nodes are there, none is added.
			n := netOfLengths(6, 0, 300, 1)
			copy(n.Ands, alone.Ands)
			if got, bits := checkAddExpr(t, "a full net that has all nodes", n, signals, ops, width); len(bits) != width || !sameNet(got, n) {
				t.Errorf("AddExpr = %v, %v for %q in the width %d, where all nodes are there", got, bits, text, width)
			}
			if needed > 0 {
				n.Ands[needed-1] = impl.And{}
				checkNoExpr(t, "a full net without the last node", n, signals, ops, width)
			}
		}
	}
}

func TestExprOfOddSignals(t *testing.T) {
	n := smallNet()
	last := 2*nodeCount(n) - 1
	if last != 13 {
		t.Fatal("the last literal is", last)
	}
	for _, text := range []string{"s0", "s0.3", "5", "+ s1 1", "~ s2.1"} {
		ops := words(t, text)
		for _, lit := range append(manyNumbers(), last, last+1) {
			// Literals count whether they are read or not.
			for place := range 4 {
				lits := []int{0, 0, 0, 0}
				lits[place] = lit
				for _, signals := range [][][]int{{lits, nil, nil}, {nil, lits, nil}, {nil, nil, lits}, {lits[:place+1], lits[place:], {2}}} {
					if lit < 0 || lit > last {
						checkNoExpr(t, "no literal", n, signals, ops, 4)
					} else if _, bits := checkAddExpr(t, "a literal", n, signals, ops, 4); len(bits) != 4 {
						t.Errorf("AddExpr = %v for %v of %v", bits, ops, signals)
					}
				}
			}
		}
		for length := range 9 {
			for place := range 3 {
				signals := make([][]int, 3)
				signals[place] = slices.Repeat([]int{12}, length)
				if _, bits := checkAddExpr(t, "a length", n, signals, ops, 4); (len(bits) == 4) != (length <= 4) {
					t.Errorf("AddExpr = %v for %v of %v", bits, ops, signals)
				}
			}
		}
	}
	for count := range 34 {
		signals := slices.Repeat([][]int{{2, 9, 4}}, count)
		want := []int{2, 9, 4, 0}
		if count > 30 || count == 0 {
			want = nil
		}
		if _, bits := checkAddExpr(t, "many signals", n, signals, []impl.Op{readSignal(count - 1)}, 4); !slices.Equal(bits, want) {
			t.Errorf("AddExpr = %v for the last of %d signals", bits, count)
		}
		if _, bits := checkAddExpr(t, "many signals", n, signals, []impl.Op{constant(9)}, 4); (len(bits) == 4) != (count <= 30) {
			t.Errorf("AddExpr = %v for a constant and %d signals", bits, count)
		}
		checkAddExpr(t, "signals without bits", n, make([][]int, count), words(t, "+ s0 ~ s1.2"), 3)
	}
}

// TestExprOfMissingBits checks bits that are not in their signals.
func TestExprOfMissingBits(t *testing.T) {
	n := smallNet()
	for length := range 5 {
		lits := []int{2, 13, 6, 9}[:length]
		all := append(slices.Clone(lits), 0, 0, 0, 0)
		for width := 1; width <= 4; width++ {
			if _, bits := impl.AddExpr(n, [][]int{nil, lits}, words(t, "s1"), width); !slices.Equal(bits, all[:width]) {
				t.Errorf("AddExpr = %v for the signal %v in the width %d", bits, lits, width)
			}
			for b := range 4 {
				ops := []impl.Op{{Kind: impl.OpBit, A: 1, B: b}}
				if _, bits := impl.AddExpr(n, [][]int{nil, lits}, ops, width); !slices.Equal(bits, append([]int{all[b]}, make([]int, width-1)...)) {
					t.Errorf("AddExpr = %v for bit %d of the signal %v in the width %d", bits, b, lits, width)
				}
			}
		}
	}
}

func TestExprOfInvalidArguments(t *testing.T) {
	n, signals := smallNet(), [][]int{{2, 4}, {6, 9, 12}}
	valid := words(t, "+ s0 s1")
	for _, width := range extremes() {
		if _, bits := checkAddExpr(t, "a width", n, signals, valid, width); (len(bits) > 0) != (width >= 1 && width <= 4) {
			t.Errorf("AddExpr = %v in the width %d", bits, width)
		}
	}
	for width := 1; width <= 4; width++ {
		for _, ops := range [][]impl.Op{
			nil, {}, words(t, "+"), words(t, "+ 1"), words(t, "1 1"), words(t, "+ 1 1 1"), words(t, "? 1 1"), words(t, "~"),
			words(t, "W"), words(t, "~ W"), words(t, "+ W 1"), words(t, "+ 1 W"), words(t, "? 0 W 1"), words(t, "? 0 1 W"),
			{constant(16)}, {constant(-1)}, {constant(math.MinInt64)}, {constant(math.MaxInt64)},
			{readSignal(2)}, {readSignal(-1)}, {readSignal(math.MinInt64)}, {readSignal(math.MaxInt64)},
			{{Kind: impl.OpBit, A: 2}}, {{Kind: impl.OpBit, B: 4}}, {{Kind: impl.OpBit, B: -1}}, {{Kind: impl.OpBit, B: math.MaxInt64}},
			{operator(13)}, {operator(-1)}, {operator(math.MinInt64)}, {operator(math.MaxInt64)},
			{{Kind: impl.OpConst, B: 1}}, {{Kind: impl.OpSignal, B: 1}}, {{Kind: impl.OpNot, A: 1}, readSignal(1)},
			{{Kind: impl.OpAdd, B: 1}, readSignal(1), readSignal(1)},
		} {
			checkNoExpr(t, "no expression", n, signals, ops, width)
		}
		for what, other := range invalidNets() {
			for _, ops := range [][]impl.Op{valid, words(t, "s0"), words(t, "3")} {
				checkNoExpr(t, what, other, signals, ops, width)
				checkNoExpr(t, what, other, nil, words(t, "3"), width)
			}
		}
		checkNoExpr(t, "the least int as Inputs", impl.Net{Inputs: math.MinInt64}, nil, words(t, "1"), width)
		checkNoExpr(t, "no signals", n, nil, words(t, "s0"), width)
		checkNoExpr(t, "no signals", n, [][]int{}, words(t, "s0.0"), width)
	}
	if got, bits := checkAddExpr(t, "no signals", impl.Net{}, nil, words(t, "- 0 1"), 3); !sameNet(got, impl.Net{}) || !slices.Equal(bits, []int{1, 1, 1}) {
		t.Errorf("AddExpr = %v, %v without signals", got, bits)
	}
}

// TestExprOfChangedArguments changes one number or one length of all arguments at a time.
func TestExprOfChangedArguments(t *testing.T) {
	type arguments struct {
		Net     impl.Net
		Signals [][]int
		Ops     []impl.Op
		Width   int
	}
	valid, invalid := 0, 0
	for _, whole := range []arguments{
		{smallNet(), [][]int{{2, 4, 13}, {6}, {9, 1}}, words(t, "? < s0 s1 - s0 s2.1 ~ s2"), 3},
		{impl.SampleNet(), [][]int{{7, 4, 3, 8}, {9, 2}}, words(t, "+ = s0 s1 ^ s0 7"), 2},
	} {
		eachChange(whole, manyNumbers(), func(what string, x arguments) {
			_, bits := checkAddExpr(t, what, x.Net, x.Signals, x.Ops, x.Width)
			valid += asNumber(bits != nil)
			invalid += asNumber(bits == nil)
		})
	}
	if valid < 300 || invalid < 300 {
		t.Error("only", valid, "valid arguments and", invalid, "others")
	}
}

// someExpression returns an expression with at most the given number of operators, where there are
// signals.
func someExpression(limit int, signals int, pick func(n int) int) []impl.Op {
	var ops []impl.Op
	for missing := 1; missing > 0; {
		o := operator(2 + pick(11))
		if len(ops)+missing+arities()[o.Kind] > limit {
			o.Kind = []int{0, 2, 3}[pick(3)]
		}
		switch o.Kind {
		case 0:
			o.A = pick(16)
		case 2:
			o.A = pick(signals)
		case 3:
			o.A, o.B = pick(signals), pick(4)
		}
		ops = append(ops, o)
		missing += arities()[o.Kind] - 1
	}
	return ops
}

// TestScatteredExpressions checks scattered expressions of scattered literals in several states.
func TestScatteredExpressions(t *testing.T) {
	pick := picker(113)
	fitting, full := 0, 0
	for round := range 600 {
		ands := pick(12)
		if round%10 == 0 {
			ands = 285 + pick(16)
		}
		n := someNet(1+pick(20), pick(13), ands, pick(17), 1+pick(3), pick)
		signals := make([][]int, 1+pick(30))
		for i := range signals {
			for range pick(5) {
				signals[i] = append(signals[i], pick(2*nodeCount(n)))
			}
		}
		ops := someExpression(15, len(signals), pick)
		for width := 1; width <= 4; width++ {
			got, bits := checkAddExpr(t, "a scattered expression", n, signals, ops, width)
			if bits == nil {
				full++
				continue
			}
			fitting++
			for range 4 {
				checkExprBits(t, "a scattered expression", n, signals, ops, got, bits, someStates(n, pick), pick(1<<20))
			}
		}
	}
	if fitting < 1000 || full < 20 {
		t.Error("only", fitting, "expressions fit, and only", full, "do not")
	}
}

// beforeHash is Elaborate without Hash.
func beforeHash(m impl.Module) (impl.Net, bool) {
	if !flatOk(m) {
		return impl.Net{}, false
	}
	var b building
	signals, assigned := make([][]int, len(m.Signals)), map[int][]impl.Op{}
	for s, signal := range m.Signals {
		for range signal.Width * asNumber(signal.Kind == 0) {
			b.net.Inputs++
			signals[s] = append(signals[s], 2*b.net.Inputs)
		}
	}
	addSeq := func(s int, seq impl.Seq) {
		b.net.Seqs = append(b.net.Seqs, seq)
		signals[s] = append(signals[s], 2*(b.net.Inputs+len(b.net.Seqs)))
	}
	for s, signal := range m.Signals {
		for k := range signal.Width * asNumber(signal.Kind == 3) {
			addSeq(s, flop(bitList(signal.Init, 4)[k], 0))
		}
	}
	for _, mem := range m.Mems {
		for range m.Signals[mem.Out].Width {
			addSeq(mem.Out, ram(0, 0, 0, 0, 0))
		}
	}
	for _, a := range m.Assigns {
		assigned[a.Target] = a.Ops
	}
	order, _ := evalOrder(m)
	for _, i := range order {
		target := m.Assigns[i].Target
		signals[target] = b.value(signals, assigned[target], m.Signals[target].Width)
	}
	var ins [][]int
	for s, signal := range m.Signals {
		switch signal.Kind {
		case 1:
			b.net.Outs = append(b.net.Outs, signals[s]...)
		case 3:
			ins = slices.AppendSeq(ins, slices.Chunk(b.value(signals, assigned[s], signal.Width), 1))
		}
	}
	for _, mem := range m.Mems {
		for _, bit := range signals[mem.Data] {
			ins = append(ins, []int{signals[mem.Addr][0], signals[mem.Addr][1], bit, signals[mem.Write][0]})
		}
	}
	for i, in := range ins {
		b.net.Seqs[i].In = in
	}
	return b.net, !b.full
}

// checkElaborate checks Elaborate for any module and returns its result.
func checkElaborate(t *testing.T, what string, m impl.Module) (impl.Net, bool) {
	t.Helper()
	got, ok := impl.Elaborate(m)
	var want impl.Net
	n, is := beforeHash(m)
	if is {
		want = hashed(n)
	}
	if ok != is || !sameNet(got, want) {
		t.Errorf("%s: Elaborate = %v, %v, want %v, %v, of %v", what, got, ok, want, is, m)
	}
	return got, ok
}

// stateBits returns the state of the net of a flat module that belongs to one of the module.
func stateBits(m impl.Module, st impl.WordState) []int {
	var bits []int
	for s, signal := range m.Signals {
		if signal.Kind == impl.SigReg {
			bits = append(bits, bitList(st.Values[s], signal.Width)...)
		}
	}
	for i, mem := range m.Mems {
		for k := range m.Signals[mem.Out].Width {
			var cells []int
			for _, word := range append([]int{st.Values[mem.Out]}, st.Words[4*i:4*i+4]...) {
				cells = append(cells, bitList(word, 4)[k])
			}
			bits = append(bits, numberOf(cells))
		}
	}
	return bits
}

// checkGraphStep checks that a step of the net of a flat module is a step of the module.
func checkGraphStep(t *testing.T, what string, m impl.Module, n impl.Net, st impl.WordState, ins []int) {
	t.Helper()
	next, outs := impl.FlatStep(m, st, ins)
	gotNext, gotOuts := impl.NetStep(n, stateBits(m, st), impl.PackBits(impl.PortWidths(m, impl.SigIn), ins))
	outWidths := impl.PortWidths(m, impl.SigOut)
	if !slices.Equal(gotNext, stateBits(m, next)) || gotOuts != impl.PackBits(outWidths, outs) || !slices.Equal(impl.UnpackBits(outWidths, gotOuts), outs) {
		t.Errorf("%s: a step of the net to %v, %d is one of the module to %v, %v, for the state %v and the inputs %v of %v", what, gotNext, gotOuts, next, outs, st, ins, m)
	}
}

// checkGraphRuns checks by the results alone that the net of a flat module has its runs and steps
// and is hashed.
func checkGraphRuns(t *testing.T, what string, m impl.Module, n impl.Net, pick func(n int) int) {
	t.Helper()
	ins := someInputs(m, pick(17), pick)
	var bits, want []int
	run := impl.FlatRun(m, ins)
	for c, list := range ins {
		bits = append(bits, impl.PackBits(impl.PortWidths(m, impl.SigIn), list))
		want = append(want, impl.PackBits(impl.PortWidths(m, impl.SigOut), run[c]))
	}
	if got := impl.NetRun(n, bits); !slices.Equal(got, want) {
		t.Errorf("%s: the outputs of the net are %v, and those of the module %v, for the inputs %v of %v", what, got, run, ins, m)
	}
	if start := impl.NetStart(n); !slices.Equal(start, stateBits(m, impl.FlatStart(m))) {
		t.Errorf("%s: the net starts in the state %v, of %v", what, start, m)
	}
	if !impl.NetOk(n) || !impl.IsHashed(n) {
		t.Errorf("%s: the net %v is not hashed, of %v", what, n, m)
	}
	st := someState(m, pick)
	for _, list := range ins {
		checkGraphStep(t, what, m, n, st, list)
		st, _ = impl.FlatStep(m, st, list)
	}
}

// checkGraph checks the net of a module, which need not be flat, in all ways. It returns 1 if there
// is a net and else 0.
func checkGraph(t *testing.T, what string, m impl.Module, pick func(n int) int) int {
	t.Helper()
	n, ok := checkElaborate(t, what, m)
	if ok {
		checkGraphRuns(t, what, m, n, pick)
	}
	return asNumber(ok)
}

func TestElaborateSample(t *testing.T) {
	m, _ := impl.Flatten(impl.SampleDesign(), 1)
	want := impl.Net{Inputs: 1, Seqs: []impl.Seq{flop(0, 11)}, Ands: gates(2, 5, 3, 4, 7, 9), Outs: []int{4}}
	if got, ok := impl.Elaborate(m); !ok || !sameNet(got, want) {
		t.Errorf("Elaborate = %v, %v, want %v", got, ok, want)
	}
	m, _ = impl.Flatten(impl.SampleDesign(), 2)
	want = impl.Net{
		Inputs: 1,
		Seqs:   []impl.Seq{flop(0, 19), flop(0, 25)},
		Ands:   gates(5, 6, 4, 7, 9, 11, 2, 5, 3, 4, 15, 17, 2, 13, 3, 6, 21, 23),
		Outs:   []int{4, 6},
	}
	if got, ok := impl.Elaborate(m); !ok || !sameNet(got, want) {
		t.Errorf("Elaborate = %v, %v, want %v", got, ok, want)
	}
	for param := 1; param <= 4; param++ {
		flat, _ := impl.Flatten(impl.SampleDesign(), param)
		if checkGraph(t, "sample", flat, picker(uint64(param))) != 1 {
			t.Error("the sample has no net")
		}
	}
}

// netCase is a module with the given lines and its net.
type netCase struct {
	what  string
	lines string
	want  impl.Net
}

func checkNetCases(t *testing.T, cases []netCase) {
	t.Helper()
	for i, c := range cases {
		m := readModule(t, c.lines)
		if got, ok := impl.Elaborate(m); !ok || !sameNet(got, c.want) {
			t.Errorf("%s: Elaborate = %v, %v, want %v", c.what, got, ok, c.want)
		}
		checkGraph(t, c.what, m, picker(uint64(i)))
	}
}

// TestElaborateOrder checks modules whose nets have no AND nodes.
func TestElaborateOrder(t *testing.T) {
	checkNetCases(t, []netCase{
		{"no signals", "", impl.Net{}},
		{"inputs only", "in 2\nin 3", impl.Net{Inputs: 5}},
		{"an output", "in 2\nout 2\nset s1 s0", impl.Net{Inputs: 2, Outs: []int{2, 4}}},
		{"constants", "out 3\nout 2\nset s0 6\nset s1 5", impl.Net{Outs: []int{0, 1, 1, 1, 0}}},
		{"complements", "in 2\nout 3\nset s1 ~ s0", impl.Net{Inputs: 2, Outs: []int{3, 5, 1}}},
		{"outputs before inputs", "out 1\nout 2\nin 1\nin 2\nset s0 s2\nset s1 s3", impl.Net{Inputs: 3, Outs: []int{2, 4, 6}}},
		{"outputs in another order", "in 3\nin 1\nout 1\nout 3\nset s3 s0\nset s2 s1", impl.Net{Inputs: 4, Outs: []int{8, 2, 4, 6}}},
		{"outputs of each other", "in 2\nout 3\nout 1\nout 2\nset s3 s0\nset s1 s2\nset s2 s3", impl.Net{Inputs: 2, Outs: []int{2, 0, 0, 2, 2, 4}}},
		{"a target narrower than its signals", "in 3\nout 1\nout 2\nset s1 s0\nset s2 ~ s0", impl.Net{Inputs: 3, Outs: []int{2, 3, 5}}},
		{"a target wider than its signals", "in 1\nout 4\nout 3\nset s1 s0\nset s2 ~ s0", impl.Net{Inputs: 1, Outs: []int{2, 0, 0, 0, 3, 1, 1}}},
		{"bits", "in 2\nout 1\nout 2\nout 3\nset s1 s0.1\nset s2 ~ s0.1\nset s3 s0.2", impl.Net{Inputs: 2, Outs: []int{4, 5, 1, 0, 0, 0}}},
		{"a bit of a wire that is narrower than its expression", "in 4\nwire 2\nout 2\nset s1 s0\nset s2 s1.2", impl.Net{Inputs: 4, Outs: []int{0, 0}}},
		{"a register", "in 3\nreg 3 5\nset s1 s0", impl.Net{Inputs: 3, Seqs: []impl.Seq{flop(1, 2), flop(0, 4), flop(1, 6)}}},
		{"Init with more bits than the register", "in 3\nreg 2 14\nset s1 s0", impl.Net{Inputs: 3, Seqs: []impl.Seq{flop(0, 2), flop(1, 4)}}},
		{"a register wider than its expression", "in 1\nreg 3 8\nset s1 ~ s0", impl.Net{Inputs: 1, Seqs: []impl.Seq{flop(0, 3), flop(0, 1), flop(0, 1)}}},
		{"registers assigned in another order", "reg 1 0\nreg 1 1\nreg 1 1\nin 3\nset s2 s3.2\nset s0 s3.0\nset s1 s3.1", impl.Net{Inputs: 3, Seqs: []impl.Seq{flop(0, 2), flop(1, 4), flop(1, 6)}}},
		{"registers of each other", "reg 1 1\nout 1\nreg 2 2\nset s0 s2.1\nset s1 s0\nset s2 ~ s0", impl.Net{Seqs: []impl.Seq{flop(1, 6), flop(0, 3), flop(1, 1)}, Outs: []int{2}}},
		{
			"a memory", "in 2\nin 3\nin 1\nout 3\nmem s0 s1 s2 s3",
			impl.Net{Inputs: 6, Seqs: []impl.Seq{ram(0, 2, 4, 6, 12), ram(0, 2, 4, 8, 12), ram(0, 2, 4, 10, 12)}, Outs: []int{14, 16, 18}},
		},
		{
			"two memories that read each other", "out 1\nwire 2\nin 2\nwire 1\nset s3 ~ s0\nmem s2 s2 s0 s1\nmem s1 s3 s3 s0",
			impl.Net{Inputs: 2, Seqs: []impl.Seq{ram(0, 2, 4, 2, 10), ram(0, 2, 4, 4, 10), ram(0, 6, 8, 11, 11)}, Outs: []int{10}},
		},
		{
			"all kinds of signals in another order",
			"out 2\nin 1\nreg 2 2\nin 2\nreg 1 1\nout 2\nwire 1\nout 3\nout 1\nset s7 s2\nset s8 s3\nset s4 s1\nset s0 s2\nset s2 s3\nset s6 s4\nmem s3 s2 s6 s5",
			impl.Net{
				Inputs: 3,
				Seqs:   []impl.Seq{flop(0, 4), flop(1, 6), flop(1, 2), ram(0, 4, 6, 8, 12), ram(0, 4, 6, 10, 12)},
				Outs:   []int{8, 10, 14, 16, 8, 10, 0, 4},
			},
		},
	})
}

// TestElaborateExpressions checks modules whose nets have AND nodes.
func TestElaborateExpressions(t *testing.T) {
	checkNetCases(t, []netCase{
		{
			// s5 is added before s4, which waits for it, and s2 and s3 behind both, in this order.
			"wires, outputs and registers", "in 1\nin 1\nreg 1 0\nreg 1 1\nout 1\nwire 1\nset s3 & s0 s1\nset s4 & s5 s3\nset s2 & s0 s2\nset s5 & s1 s2",
			impl.Net{Inputs: 2, Seqs: []impl.Seq{flop(0, 14), flop(1, 16)}, Ands: gates(4, 6, 8, 10, 2, 6, 2, 4), Outs: []int{12}},
		},
		{
			"assignments that wait for none", "in 1\nin 1\nout 1\nout 1\nout 1\nset s4 & s0 s1\nset s2 & ~ s0 s1\nset s3 & ~ s0 ~ s1",
			impl.Net{Inputs: 2, Ands: gates(2, 4, 3, 4, 3, 5), Outs: []int{8, 10, 6}},
		},
		{
			"what is added twice", "in 1\nin 1\nout 1\nout 1\nreg 1 0\nset s4 ~ & s1 s0\nset s2 & s0 s1\nset s3 | ~ s0 ~ s1",
			impl.Net{Inputs: 2, Seqs: []impl.Seq{flop(0, 9)}, Ands: gates(2, 4), Outs: []int{8, 9}},
		},
		{
			"what nothing needs", "in 1\nin 1\nwire 1\nout 1\nwire 1\nset s2 & s0 s1\nset s3 & ~ s0 s1\nset s4 & s2 s3",
			impl.Net{Inputs: 2, Ands: gates(3, 4), Outs: []int{6}},
		},
		{
			"only a register needs it", "in 1\nwire 1\nreg 1 1\nset s1 & s0 s2\nset s2 ~ s1",
			impl.Net{Inputs: 1, Seqs: []impl.Seq{flop(1, 7)}, Ands: gates(2, 4)},
		},
		{
			"only a memory needs it", "in 2\nwire 1\nwire 1\nset s1 & s0.0 s0.1\nmem s0 s1 s1 s2",
			impl.Net{Inputs: 2, Seqs: []impl.Seq{ram(0, 2, 4, 8, 8)}, Ands: gates(2, 4)},
		},
		{
			"an address, data and a write bit", "in 2\nwire 2\nwire 2\nwire 1\nout 2\nset s1 & s0 s4\nset s2 | s0 s4\nset s3 & s0.0 s0.1\nmem s1 s2 s3 s4",
			impl.Net{
				Inputs: 2,
				Seqs:   []impl.Seq{ram(0, 10, 12, 15, 18), ram(0, 10, 12, 17, 18)},
				Ands:   gates(2, 6, 4, 8, 3, 7, 5, 9, 2, 4),
				Outs:   []int{6, 8},
			},
		},
		{
			"an expression in the width of its target", "in 2\nin 2\nout 1\nout 3\nset s2 = s0 s1\nset s3 & s0 ~ s1",
			impl.Net{Inputs: 4, Ands: gates(2, 7, 3, 6, 11, 13, 4, 9), Outs: []int{14, 10, 16, 0}},
		},
		{
			"a register in the width of its target", "in 2\nreg 1 1\nreg 3 6\nset s1 & s0 s2\nset s2 & s0 ~ s1",
			impl.Net{Inputs: 2, Seqs: []impl.Seq{flop(1, 14), flop(0, 16), flop(1, 4), flop(1, 0)}, Ands: gates(2, 8, 2, 7)},
		},
	})
}

func TestElaborateOfModulesThatAreNotFlat(t *testing.T) {
	flat := readModule(t, "wire 2\nwire 3\nwire 1\nwire 4\nwire 3\nin 2\nset s0 1\nset s1 1\nset s2 1\nset s3 1\nmem s0 s1 s2 s4")
	if checkGraph(t, "flat", flat, picker(0)) != 1 {
		t.Error("the flat module has no net")
	}
	modules := invalidModules(flat)
	for what, m := range modulesThatAreNotFlat(t) {
		modules[what] = m
	}
	for what, m := range modules {
		if n, ok := impl.Elaborate(m); ok || !sameNet(n, impl.Net{}) {
			t.Errorf("%s: Elaborate = %v, %v", what, n, ok)
		}
		checkElaborate(t, what, m)
	}
}

// fillingModule returns a module whose wires s2 to s16 need exactly 300 AND nodes, 28 for each sum and
// 4 for each conjunction, and that has more signals and assignments.
func fillingModule(t *testing.T, signals string, sets string) impl.Module {
	t.Helper()
	lines := "in 4\nin 4\n" + strings.Repeat("wire 4\n", 15) + signals
	for s := 2; s < 12; s++ {
		lines += fmt.Sprintf("set s%d + s%d s%d\n", s, s-1, s-2)
	}
	for s := 12; s < 17; s++ {
		lines += fmt.Sprintf("set s%d & s0 s%d\n", s, s-9)
	}
	return readModule(t, lines+sets)
}

// TestElaborateOfTooMuch checks modules that need as many AND nodes as there may be, and one more.
func TestElaborateOfTooMuch(t *testing.T) {
	for _, c := range []struct {
		signals string
		sets    string
		ands    int
	}{
		{"", "", 300},
		{"out 4\n", "set s17 s16", 300},
		{"out 4\nout 1\n", "set s17 & s3 s0\nset s18 ~ & s2.0 s1.0", 300},
		{"reg 4 9\n", "set s17 + s3 s2", 300},
		{"out 4\n", "set s17 ? s0.0 7 7", 300},
		{"out 1\n", "set s17 & s0.0 s3.1", 301},
		{"wire 1\n", "set s17 & s0.0 s3.1", 301},
		{"reg 1 0\n", "set s17 & s0.0 s3.1", 301},
		{"wire 1\nout 4\n", "set s17 & s0.0 s3.1\nset s18 s0", 301},
		{"wire 1\nout 4\n", "set s17 & s0.0 s3.1\nset s18 & s17.1 s0", 301},
		{"wire 1\nreg 2 1\n", "set s17 & s0.0 s3.1\nset s18 ~ s18", 301},
		{"reg 1 0\nreg 2 1\n", "set s18 ~ s18\nset s17 & s0.0 s3.1", 301},
		{"wire 4\nout 4\n", "set s17 - s3 s0\nset s18 7", 326},
	} {
		m := fillingModule(t, c.signals, c.sets)
		n, ok := impl.Elaborate(m)
		if ok != (c.ands <= 300) || !ok && !sameNet(n, impl.Net{}) {
			t.Errorf("Elaborate = %v, %v where %d AND nodes are needed, with %q", n, ok, c.ands, c.sets)
		}
		if b, is := beforeHash(m); is && len(b.Ands) != c.ands {
			t.Errorf("%d AND nodes are needed, and not %d, with %q", len(b.Ands), c.ands, c.sets)
		}
		checkGraph(t, c.sets, m, picker(uint64(c.ands)))
		// Without the last conjunction, four more AND nodes fit.
		m.Assigns[14].Ops = words(t, "s7")
		n, ok = impl.Elaborate(m)
		if ok != (c.ands <= 304) {
			t.Errorf("Elaborate = %v, %v where %d AND nodes are needed, with %q", n, ok, c.ands-4, c.sets)
		}
		checkGraph(t, c.sets, m, picker(uint64(c.ands)))
	}
	// None of the 300 AND nodes is left where nothing needs them.
	if n, ok := impl.Elaborate(fillingModule(t, "", "")); !ok || !sameNet(n, impl.Net{Inputs: 8}) {
		t.Errorf("Elaborate = %v, %v where nothing needs the AND nodes", n, ok)
	}
}

// TestGraphsOfSmallModules checks all states and inputs of small modules.
func TestGraphsOfSmallModules(t *testing.T) {
	for i, m := range smallModules(t) {
		n, ok := checkElaborate(t, "a small module", m)
		if !ok {
			t.Errorf("%v has no net", m)
			continue
		}
		eachCycle(m, func(st impl.WordState, ins []int) { checkGraphStep(t, "a small module", m, n, st, ins) })
		checkGraphRuns(t, "a small module", m, n, picker(uint64(i)))
	}
}

// TestGraphsOfFlatModules checks modules with registers, memories and both in several runs.
func TestGraphsOfFlatModules(t *testing.T) {
	pick := picker(114)
	for _, m := range flatModules(t) {
		for range 20 {
			if checkGraph(t, "a flat module", m, pick) != 1 {
				t.Errorf("%v has no net", m)
			}
		}
	}
}

// TestGraphsOfChangedModules changes one number or one length of a module at a time.
func TestGraphsOfChangedModules(t *testing.T) {
	pick := picker(115)
	for _, m := range append(flatModules(t), smallModules(t)...) {
		flat := 0
		eachChange(m, append(extremes(), 6, 7, 8, 9, 10, 11), func(what string, m impl.Module) { flat += checkGraph(t, what, m, pick) })
		if flat < 5 && len(m.Assigns) > 0 {
			t.Errorf("only %d modules like %v are flat", flat, m)
		}
	}
}

// TestGraphsOfDesigns checks what designs with one change are flattened to.
func TestGraphsOfDesigns(t *testing.T) {
	pick := picker(116)
	graphs := 0
	for _, d := range append(designs(t), driverKinds()) {
		eachChange(d, append(upTo(16), -1), func(what string, d impl.Design) {
			for param := 1; param <= 4; param++ {
				if flat, ok := impl.Flatten(d, param); ok {
					graphs += checkGraph(t, what, flat, pick)
				}
			}
		})
	}
	if graphs < 1000 {
		t.Error("only", graphs, "modules")
	}
}

// someSignals returns scattered signals of all kinds, in any order.
func someSignals(pick func(n int) int) []impl.Signal {
	var signals []impl.Signal
	wires := pick(4)
	if pick(20) == 0 {
		wires = 20
	}
	for kind, count := range []int{1 + pick(4), pick(4), wires, pick(4)} {
		for range count {
			signal := impl.Signal{Kind: kind, Width: 1 + pick(4)}
			switch {
			case kind == impl.SigReg:
				signal.Init = pick(16)
			case kind == impl.SigWire && wires > 3:
				signal.Width = 4
			}
			signals = slices.Insert(signals, pick(len(signals)+1), signal)
		}
	}
	return signals
}

// someMemory returns a memory that drives a signal of m and reads signals of the right widths, and
// whether there are such signals.
func someMemory(m impl.Module, out int, pick func(n int) int) (impl.Mem, bool) {
	mem := impl.Mem{Addr: pick(len(m.Signals)), Data: pick(len(m.Signals)), Write: pick(len(m.Signals)), Out: out}
	for range 20 {
		widths := [...]int{m.Signals[mem.Addr].Width, m.Signals[mem.Write].Width, m.Signals[mem.Data].Width}
		if widths == [...]int{2, 1, m.Signals[out].Width} {
			return mem, true
		}
		mem.Addr, mem.Data, mem.Write = mem.Data, mem.Write, pick(len(m.Signals))
	}
	return impl.Mem{}, false
}

// someFlatModule returns a scattered module, which may have too many bits. The more assignments there
// are, the longer they may be.
func someFlatModule(pick func(n int) int) impl.Module {
	m := impl.Module{Signals: someSignals(pick)}
	var readable, driven []int
	for s, signal := range m.Signals {
		if signal.Kind == impl.SigReg {
			driven = append(driven, s)
		}
		if signal.Kind == impl.SigIn || signal.Kind == impl.SigReg {
			readable = append(readable, s)
			continue
		}
		if mem, ok := someMemory(m, s, pick); ok && len(m.Mems) < 2 {
			m.Mems = append(m.Mems, mem)
			readable = append(readable, s)
			continue
		}
		driven = append(driven, s)
	}
	// A wire reads only what is there before it; the assignments come in another order.
	for _, s := range driven {
		ops := someExpression(min(1+pick(15)+len(driven), 15), len(readable), pick)
		for i, o := range ops {
			if o.Kind == 2 || o.Kind == 3 {
				ops[i].A = readable[o.A]
			}
		}
		m.Assigns = slices.Insert(m.Assigns, pick(len(m.Assigns)+1), impl.Assign{Target: s, Ops: ops})
		readable = append(readable, s)
	}
	return m
}

// TestGraphsOfScatteredModules checks scattered modules; enough of them must have registers and
// memories, and some too many AND nodes.
func TestGraphsOfScatteredModules(t *testing.T) {
	pick := picker(117)
	var counts [5]int
	for range 3000 {
		m := someFlatModule(pick)
		hasReg := len(portWidths(m, impl.SigReg)) > 0
		switch is, flat := checkGraph(t, "a scattered module", m, pick) == 1, flatOk(m); {
		case flat && !is:
			counts[0]++
		case is && hasReg && len(m.Mems) > 0:
			counts[1]++
		case is && hasReg:
			counts[2]++
		case is && len(m.Mems) > 0:
			counts[3]++
		case is:
			counts[4]++
		}
	}
	if slices.Min(counts[:]) < 20 {
		t.Error("only", counts, "modules of a sort")
	}
}

// checkOwnBits checks that no function of Chapter 11 changes its arguments, or shares memory with
// them or within its result.
func checkOwnBits(t *testing.T, net impl.Net, lits [][]int, text []impl.Op, module impl.Module, sizes []int) {
	t.Helper()
	n, signals, ops, m, widths := roomy(net), roomy(lits), roomy(text), roomy(module), roomy(sizes)
	shared := []any{n, signals, ops, m, widths}
	var results []any
	for width := range 6 {
		got, bits := impl.AddExpr(n, signals, ops, width)
		again, _ := impl.Elaborate(m)
		results = append(results, got, bits, again, impl.UnpackBits(widths, width*12345))
		impl.PackBits(widths, widths)
		impl.PackBits(widths, widths[:len(widths)/2])
	}
	if sharesMemory(append(shared, results...)...) {
		t.Errorf("results share memory, for %v, %v, %v, %v or %v", net, lits, text, module, sizes)
	}
	for _, result := range results {
		overwrite(reflect.ValueOf(result))
	}
	if !untouched(n, roomy(net)) || !untouched(signals, roomy(lits)) || !untouched(ops, roomy(text)) || !untouched(m, roomy(module)) || !untouched(widths, roomy(sizes)) {
		t.Errorf("%v, %v, %v, %v or %v was changed to %v, %v, %v, %v and %v", net, lits, text, module, sizes, n, signals, ops, m, widths)
	}
}

func TestBitsMemory(t *testing.T) {
	pick := picker(118)
	modules := append(flatModules(t), driverKinds().Modules...)
	sizes := [][]int{nil, {}, {1}, {4, 4, 4, 4, 4}, {1, 2, 3, 4}, {0}, {5, 1}, {4, 4, 4, 4, 4, 1}}
	for round := range 60 {
		n := someNet(1+pick(20), pick(13), pick(20), pick(17), 1+pick(3), pick)
		signals := [][]int{{2, 3, 0, 1}, {2, pick(2 * nodeCount(n))}, nil}
		ops := someExpression(15, 3, pick)
		if round%3 == 1 {
			n.Outs = append(n.Outs, -1)
		}
		if round%3 == 2 {
			ops = [][]impl.Op{{readSignal(0)}, {operator(impl.OpNot), readSignal(1)}, {constant(5)}}[round%9/3]
		}
		checkOwnBits(t, n, signals, ops, modules[round%len(modules)], sizes[round%len(sizes)])
	}
	checkOwnBits(t, netOfLengths(3, 2, 299, 4), [][]int{{2, 4}, {6, 8}}, words(t, "+ s0 s1"), fillingModule(t, "", ""), nil)
	checkOwnBits(t, impl.Net{Inputs: -1, Outs: []int{5}}, [][]int{{-1}}, words(t, "s0"), fillingModule(t, "out 1\n", "set s17 & s0.0 s3.1"), nil)
	// Parts of one argument may share memory; a result has its own.
	same := []int{2, 3, 1, 0}
	n := impl.Net{Inputs: 1, Seqs: []impl.Seq{ram(3, same...), ram(4, same...)}, Outs: same}
	n.Seqs[0].In, n.Seqs[1].In = same, same
	for _, width := range []int{0, 2, 4} {
		got, bits := impl.AddExpr(n, [][]int{same, same}, words(t, "s1"), width)
		if sharesMemory(same, got, bits) || !sameNet(got, n) || !slices.Equal(bits, same[:width]) {
			t.Errorf("AddExpr = %v, %v where the arguments share memory", got, bits)
		}
	}
}
