package tests

import (
	"cmp"
	"fmt"
	"math"
	"reflect"
	"slices"
	"strings"
	"testing"

	"loop.example/g03311/impl"
)

// words returns the expression with the given words.
func words(t *testing.T, text string) []impl.Op {
	t.Helper()
	var ops []impl.Op
	for word := range strings.SplitSeq(text, " ") {
		o, is := operatorOfWord[word]
		if !is {
			t.Fatalf("%q is no operator", word)
		}
		ops = append(ops, o)
	}
	return ops
}

// picker returns a function for numbers from 0 to n-1 that are scattered, and the same in each run
// of the tests.
func picker(seed uint64) func(n int) int {
	return func(n int) int {
		seed = seed*6364136223846793005 + 1442695040888963407
		return int(seed>>33) % n
	}
}

// modulo returns n modulo 2^width.
func modulo(n int, width int) int {
	size := 1 << width
	return (n%size + size) % size
}

// asNumber returns 1 for true and 0 for false.
func asNumber(holds bool) int {
	if holds {
		return 1
	}
	return 0
}

// resultOf returns the value of an operator with the values of its operands in a width.
func resultOf(o impl.Op, x []int, values []int, width int) int {
	total := 0
	switch o.Kind {
	case 0:
		total = o.A
	case 2:
		total = values[o.A]
	case 3:
		total = values[o.A] / []int{1, 2, 4, 8}[o.B] % 2
	case 4:
		total = 15 - x[0]
	case 5, 6, 7:
		for place := 1; place <= 8; place *= 2 {
			ones := x[0]/place%2 + x[1]/place%2
			if ones == 2 && o.Kind == 5 || ones >= 1 && o.Kind == 6 || ones == 1 && o.Kind == 7 {
				total += place
			}
		}
	case 8:
		total = x[0] + x[1]
	case 9:
		total = x[0] - x[1]
	case 10:
		total = asNumber(x[0] == x[1])
	case 11:
		total = asNumber(x[0] < x[1])
	case 12:
		total = x[2]
		if x[0] > 0 {
			total = x[1]
		}
	}
	return modulo(total, width)
}

// expressionValue is ExprValue by a stack that is filled from the last operator to the first one.
func expressionValue(ops []impl.Op, values []int, width int) int {
	fourBits := func(n int) bool { return modulo(n, 4) == n }
	if !expressionOk(ops, len(values)) || len(values) > 30 || !slices.Contains([]int{1, 2, 3, 4}, width) {
		return -1
	}
	for _, n := range values {
		if !fourBits(n) {
			return -1
		}
	}
	var stack []int
	for _, o := range slices.Backward(ops) {
		if o.Kind == 1 {
			return -1
		}
		rest := len(stack) - arities()[o.Kind]
		operands := slices.Clone(stack[rest:])
		slices.Reverse(operands)
		stack = append(stack[:rest], resultOf(o, operands, values, width))
	}
	return stack[0]
}

// greatestState returns the state of a flat module with the greatest values that it can have.
func greatestState(m impl.Module) impl.WordState {
	st := impl.WordState{Values: make([]int, len(m.Signals))}
	for s, signal := range m.Signals {
		if signal.Kind == 3 {
			st.Values[s] = 1<<signal.Width - 1
		}
	}
	for _, mem := range m.Mems {
		greatest := 1<<m.Signals[mem.Data].Width - 1
		st.Values[mem.Out] = greatest
		st.Words = append(st.Words, greatest, greatest, greatest, greatest)
	}
	return st
}

// within reports whether a list has as many numbers as another one, and each of them is from 0 to
// the other one.
func within(list []int, greatest []int) bool {
	if len(list) != len(greatest) {
		return false
	}
	for i, n := range list {
		if n < 0 || n > greatest[i] {
			return false
		}
	}
	return true
}

// wordStateOk is WordStateOk by the functions above.
func wordStateOk(m impl.Module, st impl.WordState) bool {
	if !flatOk(m) {
		return false
	}
	greatest := greatestState(m)
	return within(st.Values, greatest.Values) && within(st.Words, greatest.Words)
}

// startOf is FlatStart for a flat module.
func startOf(m impl.Module) impl.WordState {
	st := impl.WordState{Values: make([]int, len(m.Signals)), Words: make([]int, 4*len(m.Mems))}
	for s, signal := range m.Signals {
		if signal.Kind == 3 {
			st.Values[s] = modulo(signal.Init, signal.Width)
		}
	}
	return st
}

// cycle is what happens in a cycle: the values of all signals and of the outputs, and the next
// state.
type cycle struct {
	values []int
	outs   []int
	next   impl.WordState
}

// cycleOf returns what happens in a cycle, for valid arguments. The value of a signal is found when
// it is needed for another one.
func cycleOf(m impl.Module, st impl.WordState, ins []int) cycle {
	now := cycle{values: slices.Repeat([]int{-1}, len(m.Signals)), next: impl.WordState{Values: make([]int, len(m.Signals)), Words: slices.Clone(st.Words)}}
	assigned := map[int][]impl.Op{}
	for _, a := range m.Assigns {
		assigned[a.Target] = a.Ops
	}
	var find func(s int) int
	result := func(s int) int {
		known := make([]int, len(m.Signals))
		for _, o := range assigned[s] {
			if o.Kind == 2 || o.Kind == 3 {
				known[o.A] = find(o.A)
			}
		}
		return expressionValue(assigned[s], known, m.Signals[s].Width)
	}
	find = func(s int) int {
		if now.values[s] == -1 {
			now.values[s] = st.Values[s]
			if _, is := assigned[s]; is && m.Signals[s].Kind != 3 {
				now.values[s] = result(s)
			}
		}
		return now.values[s]
	}
	for s, signal := range m.Signals {
		if signal.Kind == 0 {
			now.values[s], ins = modulo(ins[0], signal.Width), ins[1:]
		}
	}
	for s, signal := range m.Signals {
		switch value := find(s); signal.Kind {
		case 1:
			now.outs = append(now.outs, value)
		case 3:
			now.next.Values[s] = result(s)
		}
	}
	for i, mem := range m.Mems {
		four := now.next.Words[4*i : 4*i+4]
		address := find(mem.Addr)
		now.next.Values[mem.Out] = four[address]
		if find(mem.Write) == 1 {
			four[address] = find(mem.Data)
		}
	}
	return now
}

func sameLists(a [][]int, b [][]int) bool { return slices.EqualFunc(a, b, slices.Equal[[]int]) }

func sameState(a impl.WordState, b impl.WordState) bool {
	return slices.Equal(a.Values, b.Values) && slices.Equal(a.Words, b.Words)
}

// checkCycle checks what Chapter 7 says about a cycle of a module. Nothing needs to be valid.
func checkCycle(t *testing.T, what string, m impl.Module, st impl.WordState, ins []int) {
	t.Helper()
	ok := wordStateOk(m, st)
	if got := impl.WordStateOk(m, st); got != ok {
		t.Errorf("%s: WordStateOk = %v for the state %v of %v", what, got, st, m)
	}
	var want cycle
	if ok && len(ins) == len(portWidths(m, 0)) {
		want = cycleOf(m, st, ins)
	}
	if values := impl.SignalValues(m, st, ins); !slices.Equal(values, want.values) {
		t.Errorf("%s: SignalValues = %v, want %v, for the state %v and the inputs %v of %v", what, values, want.values, st, ins, m)
	}
	next, outs := impl.FlatStep(m, st, ins)
	if !sameState(next, want.next) || !slices.Equal(outs, want.outs) {
		t.Errorf("%s: FlatStep = %v, %v, want %v, %v, for the state %v and the inputs %v of %v", what, next, outs, want.next, want.outs, st, ins, m)
	}
}

// checkRun checks what Chapter 7 says about a run of a module. Nothing needs to be valid.
func checkRun(t *testing.T, what string, m impl.Module, ins [][]int) {
	t.Helper()
	var start impl.WordState
	var run, trace [][]int
	otherLength := func(list []int) bool { return len(list) != len(portWidths(m, 0)) }
	if flatOk(m) {
		start = startOf(m)
		if len(ins) <= 16 && !slices.ContainsFunc(ins, otherLength) {
			st := start
			for _, list := range ins {
				now := cycleOf(m, st, list)
				trace, run, st = append(trace, now.values), append(run, now.outs), now.next
			}
		}
	}
	if got := impl.FlatStart(m); !sameState(got, start) {
		t.Errorf("%s: FlatStart = %v, want %v, of %v", what, got, start, m)
	}
	if got := impl.FlatTrace(m, ins); !sameLists(got, trace) {
		t.Errorf("%s: FlatTrace = %v, want %v, for the inputs %v of %v", what, got, trace, ins, m)
	}
	if got := impl.FlatRun(m, ins); !sameLists(got, run) {
		t.Errorf("%s: FlatRun = %v, want %v, for the inputs %v of %v", what, got, run, ins, m)
	}
}

// someInputs returns inputs for a number of cycles of a module, in and out of the ranges of their
// widths.
func someInputs(m impl.Module, cycles int, pick func(n int) int) [][]int {
	list := make([][]int, cycles)
	for i := range list {
		for range portWidths(m, 0) {
			n := pick(16)
			if pick(8) == 0 {
				n = extremes()[pick(len(extremes()))]
			}
			list[i] = append(list[i], n)
		}
	}
	return list
}

// someState returns a valid state of a flat module.
func someState(m impl.Module, pick func(n int) int) impl.WordState {
	st := greatestState(m)
	for i, n := range st.Values {
		st.Values[i] = pick(n + 1)
	}
	for i, n := range st.Words {
		st.Words[i] = pick(n + 1)
	}
	return st
}

// checkSteps checks that a run of a flat module consists of steps, that its beginnings are runs,
// too, and that inputs count within their widths.
func checkSteps(t *testing.T, what string, m impl.Module, ins [][]int) {
	t.Helper()
	run, trace := impl.FlatRun(m, ins), impl.FlatTrace(m, ins)
	if len(run) != len(ins) || len(trace) != len(ins) {
		t.Errorf("%s: %d outputs and %d lists of values for %d cycles of %v", what, len(run), len(trace), len(ins), m)
		return
	}
	st := impl.FlatStart(m)
	for i, list := range ins {
		if !sameLists(impl.FlatRun(m, ins[:i]), run[:i]) || !sameLists(impl.FlatTrace(m, ins[:i]), trace[:i]) {
			t.Errorf("%s: the first %d cycles are not those of the whole run of %v", what, i, m)
		}
		values := impl.SignalValues(m, st, list)
		next, outs := impl.FlatStep(m, st, list)
		if !impl.WordStateOk(m, st) || !slices.Equal(values, trace[i]) || !slices.Equal(outs, run[i]) {
			t.Errorf("%s: cycle %d has the values %v and the outputs %v, in the run %v and %v, of %v", what, i, values, outs, trace[i], run[i], m)
		}
		st = next
	}
	for _, factor := range []int{1, -1, 1 << 32, math.MinInt64} {
		var other [][]int
		for _, list := range ins {
			list = slices.Clone(list)
			for i, width := range portWidths(m, 0) {
				list[i] += factor << width
			}
			other = append(other, list)
		}
		if !sameLists(impl.FlatRun(m, other), run) || !sameLists(impl.FlatTrace(m, other), trace) {
			t.Errorf("%s: the inputs %v have another run than %v, of %v", what, other, ins, m)
		}
	}
}

// checkInstances checks that each instance in the top module of a design behaves like its module
// alone, and returns how many of them could be compared.
func checkInstances(t *testing.T, what string, d impl.Design, param int, pick func(n int) int) int {
	t.Helper()
	flat, ok := impl.Flatten(d, param)
	if !ok {
		return 0
	}
	// The signals of the top module come first in the flat module and keep their numbers.
	trace := impl.FlatTrace(flat, someInputs(flat, 16, pick))
	count := 0
	for _, inst := range d.Modules[len(d.Modules)-1].Insts {
		part, _ := impl.InstanceOf(d, inst.Module)
		own, ok := impl.Flatten(part, cmp.Or(inst.Param, param))
		if !ok {
			continue
		}
		var ins, outs [][]int
		for _, values := range trace {
			var in, out []int
			for i, port := range impl.PortsOf(own) {
				if value := values[inst.Ports[i]]; own.Signals[port].Kind == impl.SigIn {
					in = append(in, value)
				} else {
					out = append(out, value)
				}
			}
			ins, outs = append(ins, in), append(outs, out)
		}
		if got := impl.FlatRun(own, ins); !sameLists(got, outs) {
			t.Errorf("%s: an instance has the outputs %v, and alone %v, for the inputs %v, in %v", what, outs, got, ins, d)
		}
		count++
	}
	return count
}

func TestWordConstants(t *testing.T) {
	if impl.MaxCycles != 16 {
		t.Error("MaxCycles =", impl.MaxCycles)
	}
}

// TestExprValue checks expressions in the widths 1, 2, 3 and 4. Signal 0 is 13 and signal 1 is 10.
func TestExprValue(t *testing.T) {
	cases := []struct {
		text string
		want [4]int
	}{
		{"0", [4]int{}},
		{"15", [4]int{1, 3, 7, 15}},
		{"5", [4]int{1, 1, 5, 5}},
		{"8", [4]int{0, 0, 0, 8}},
		{"s0", [4]int{1, 1, 5, 13}},
		{"s1", [4]int{0, 2, 2, 10}},
		{"s0.0", [4]int{1, 1, 1, 1}},
		{"s0.1", [4]int{}},
		{"s0.2", [4]int{1, 1, 1, 1}},
		{"s1.2", [4]int{}},
		{"s1.3", [4]int{1, 1, 1, 1}},
		{"~ 0", [4]int{1, 3, 7, 15}},
		{"~ 15", [4]int{}},
		{"~ s0", [4]int{0, 2, 2, 2}},
		{"~ s1.3", [4]int{0, 2, 6, 14}},
		{"& 12 10", [4]int{0, 0, 0, 8}},
		{"| 12 10", [4]int{0, 2, 6, 14}},
		{"^ 12 10", [4]int{0, 2, 6, 6}},
		{"+ 3 2", [4]int{1, 1, 5, 5}},
		{"+ 15 1", [4]int{}},
		{"+ 9 9", [4]int{0, 2, 2, 2}},
		{"- s0 s1", [4]int{1, 3, 3, 3}},
		{"- 2 3", [4]int{1, 3, 7, 15}},
		{"- 0 15", [4]int{1, 1, 1, 1}},
		{"- 0 0", [4]int{}},
		{"= 1 3", [4]int{1, 0, 0, 0}},
		{"= 0 8", [4]int{1, 1, 1, 0}},
		{"= 6 6", [4]int{1, 1, 1, 1}},
		{"= + 1 1 0", [4]int{1, 0, 0, 0}},
		{"< 1 2", [4]int{0, 1, 1, 1}},
		{"< 2 1", [4]int{1, 0, 0, 0}},
		{"< 7 8", [4]int{0, 0, 0, 1}},
		{"< 8 7", [4]int{1, 1, 1, 0}},
		{"< 4 4", [4]int{}},
		{"< + 9 9 9", [4]int{1, 0, 0, 1}},
		{"? 1 5 6", [4]int{1, 1, 5, 5}},
		{"? 0 5 6", [4]int{0, 2, 6, 6}},
		{"? 2 1 0", [4]int{0, 1, 1, 1}},
		{"? 8 s0 s1", [4]int{0, 2, 2, 13}},
		{"? + 15 1 9 6", [4]int{0, 2, 6, 6}},
		{"? ~ 15 9 6", [4]int{0, 2, 6, 6}},
		{"? s1.3 5 6", [4]int{1, 1, 5, 5}},
		{"- + 1 2 ^ 3 & 5 6", [4]int{0, 0, 4, 12}},
		{"? = 1 3 - 0 1 ? s0.1 0 | 4 2", [4]int{1, 2, 6, 6}},
	}
	for _, c := range cases {
		for i, want := range c.want {
			if got := impl.ExprValue(words(t, c.text), []int{13, 10}, i+1); got != want {
				t.Errorf("ExprValue(%q) in the width %d = %d, want %d", c.text, i+1, got, want)
			}
		}
	}
}

// checkExpression compares ExprValue with the function above in all widths.
func checkExpression(t *testing.T, ops []impl.Op, values []int) {
	t.Helper()
	for width := 0; width <= 5; width++ {
		if got, want := impl.ExprValue(ops, values, width), expressionValue(ops, values, width); got != want {
			t.Errorf("ExprValue(%v, %v, %d) = %d, want %d", ops, values, width, got, want)
		}
	}
}

func TestExprValueOfAllOperands(t *testing.T) {
	for a := range 16 {
		checkExpression(t, []impl.Op{constant(a)}, nil)
		checkExpression(t, []impl.Op{operator(impl.OpNot), constant(a)}, nil)
		for b := range 16 {
			values := []int{b, a, 15 - b}
			for bit := range 4 {
				checkExpression(t, []impl.Op{{Kind: impl.OpBit, A: 1, B: bit}}, values)
			}
			for kind := impl.OpAnd; kind <= impl.OpLess; kind++ {
				checkExpression(t, []impl.Op{operator(kind), constant(a), constant(b)}, nil)
				checkExpression(t, []impl.Op{operator(kind), readSignal(1), readSignal(0)}, values)
			}
			for c := range 16 {
				checkExpression(t, []impl.Op{operator(impl.OpMux), readSignal(1), constant(b), constant(c)}, values)
			}
		}
	}
}

// leaves fills the fields of operators without operands, so that their values are different.
func leaves(ops []impl.Op) []impl.Op {
	for i, o := range ops {
		switch o.Kind {
		case impl.OpConst:
			ops[i].A = (11*i + 6) % 16
		case impl.OpSignal:
			ops[i].A = i % 5
		case impl.OpBit:
			ops[i].A, ops[i].B = i%5, (i+1)%4
		}
	}
	return ops
}

func TestExprValueOfAllShapes(t *testing.T) {
	values := []int{7, 12, 1, 10, 15}
	for length := range 5 {
		for _, kinds := range sequences(upTo(13), length) {
			checkExpression(t, leaves(expression(kinds...)), values)
		}
	}
	for length := 5; length <= 7; length++ {
		for _, kinds := range sequences([]int{impl.OpSignal, impl.OpNot, impl.OpSub, impl.OpMux}, length) {
			checkExpression(t, leaves(expression(kinds...)), values)
		}
	}
}

func TestExprValueMaxOps(t *testing.T) {
	for length := 1; length <= 21; length += 2 {
		for i, ops := range longExpressions(length) {
			if i == 2 {
				ops[length-1] = constant(9)
			}
			if got := impl.ExprValue(ops, []int{6}, 4); (got == -1) != (length > 15) {
				t.Errorf("ExprValue of %d operators = %d", length, got)
			}
			checkExpression(t, ops, []int{6})
		}
	}
	if impl.ExprValue(slices.Repeat([]impl.Op{operator(impl.OpMux)}, 100000), nil, 1) != -1 {
		t.Error("ExprValue of a very long list")
	}
}

func TestExprValueOpParam(t *testing.T) {
	for _, text := range []string{"W", "~ W", "+ W 1", "+ 1 W", "? W 1 2", "? 0 W 2", "? 1 2 W", "& 0 & 1 & 2 & 3 & 4 & 5 & 6 W"} {
		for width := range 6 {
			ops := words(t, text)
			if got := impl.ExprValue(ops, []int{1, 2}, width); got != -1 {
				t.Errorf("ExprValue(%q) in the width %d = %d", text, width, got)
			}
		}
		checkExpression(t, words(t, strings.Replace(text, "W", "3", 1)), nil)
	}
}

func TestExprValueOfInvalidExpressions(t *testing.T) {
	last := readSignal(1)
	for _, ops := range [][]impl.Op{
		nil, {}, words(t, "+"), words(t, "+ 1"), words(t, "1 1"), words(t, "+ 1 1 1"), words(t, "? 1 1"), words(t, "~"),
		{constant(16)}, {constant(-1)}, {constant(math.MinInt64)}, {constant(math.MaxInt64)},
		{readSignal(2)}, {readSignal(-1)}, {readSignal(math.MinInt64)}, {readSignal(math.MaxInt64)},
		{{Kind: impl.OpBit, A: 2}}, {{Kind: impl.OpBit, B: 4}}, {{Kind: impl.OpBit, B: -1}}, {{Kind: impl.OpBit, B: math.MaxInt64}},
		{operator(13)}, {operator(-1)}, {operator(math.MinInt64)}, {operator(math.MaxInt64)},
		{{Kind: impl.OpConst, B: 1}}, {{Kind: impl.OpSignal, B: 1}}, {{Kind: impl.OpNot, A: 1}, last}, {{Kind: impl.OpAdd, B: 1}, last, last},
	} {
		for width := 1; width <= 4; width++ {
			if got := impl.ExprValue(ops, []int{1, 2}, width); got != -1 {
				t.Errorf("ExprValue(%v) in the width %d = %d", ops, width, got)
			}
		}
	}
	if impl.ExprValue([]impl.Op{last}, nil, 4) != -1 || impl.ExprValue([]impl.Op{readSignal(0)}, nil, 4) != -1 {
		t.Error("ExprValue reads a value that does not exist")
	}
}

func TestExprValueOfInvalidValues(t *testing.T) {
	for count := range 34 {
		want := 5
		if count > 30 {
			want = -1
		}
		if got := impl.ExprValue([]impl.Op{constant(5)}, slices.Repeat([]int{9}, count), 4); got != want {
			t.Errorf("ExprValue with %d values = %d", count, got)
		}
		if got := impl.ExprValue([]impl.Op{readSignal(count - 1)}, slices.Repeat([]int{5}, count), 4); count > 0 && got != want {
			t.Errorf("ExprValue of the last of %d values = %d", count, got)
		}
		// Values count whether they are read or not.
		for place := range count {
			for _, n := range extremes() {
				values := make([]int, count)
				values[place] = n
				for _, ops := range [][]impl.Op{{constant(5)}, {readSignal(place)}, {readSignal(0)}} {
					checkExpression(t, ops, values)
				}
			}
		}
	}
	for _, n := range extremes() {
		want := n
		if n < 0 || n > 15 {
			want = -1
		}
		if got := impl.ExprValue([]impl.Op{readSignal(0)}, []int{n}, 4); got != want {
			t.Errorf("ExprValue of the value %d = %d", n, got)
		}
	}
}

func TestExprValueOfInvalidWidths(t *testing.T) {
	for _, width := range extremes() {
		got := impl.ExprValue(words(t, "~ 0"), nil, width)
		if ok := width >= 1 && width <= 4; ok && got != 1<<width-1 || !ok && got != -1 {
			t.Errorf("ExprValue in the width %d = %d", width, got)
		}
	}
}

// TestExprValueOfChangedArguments changes one number or one length at a time.
func TestExprValueOfChangedArguments(t *testing.T) {
	for _, text := range []string{"? < s0 s1 + s2.3 6 - s3 s1", "^ ~ s0 = | s1 s3.1 & 12 s2", "s3"} {
		whole := struct {
			Ops    []impl.Op
			Values []int
		}{words(t, text), []int{5, 12, 9, 3}}
		value := reflect.ValueOf(&whole).Elem()
		parts(value, reflect.Int, func(number reflect.Value) {
			before := number.Int()
			for _, other := range append(extremes(), 6, 7, 8, 9, 10, 11) {
				number.SetInt(int64(other))
				checkExpression(t, whole.Ops, whole.Values)
			}
			number.SetInt(before)
		})
		for length := range len(whole.Ops) + 1 {
			checkExpression(t, whole.Ops[:length], whole.Values)
			checkExpression(t, whole.Ops[length:], whole.Values)
		}
		for length := range len(whole.Values) + 1 {
			checkExpression(t, whole.Ops, whole.Values[:length])
		}
	}
}

// statesText has the lines of a flat module with two registers and two memories of other widths, one
// of which writes what it has read.
const statesText = `in 2
reg 2 3
out 3
in 3
wire 1
reg 3 6
in 1
out 2
wire 3
wire 2
set s7 s8
set s8 + s5 s3
set s1 + s1 s9
set s9 ^ s0 s1
set s5 ? s4 s8 - s5 s2
mem s0 s8 s6 s2
mem s9 s6 s4 s4`

// flatModules returns flat modules with registers, memories, and both.
func flatModules(t *testing.T) []impl.Module {
	t.Helper()
	return []impl.Module{
		readModule(t, statesText), readModule(t, flatText), readModule(t, "reg 4 9\nout 4\nset s0 + s0 3\nset s1 s0"),
		readModule(t, "in 2\nin 1\nout 4\nin 4\nmem s0 s3 s1 s2"), readModule(t, "in 3\nout 3\nset s1 ~ s0"), readModule(t, "in 4\nin 4"), {},
		read(t, nestedFlatText).Modules[0], read(t, memoriesFlatText).Modules[0],
	}
}

func TestWordStateOk(t *testing.T) {
	m := readModule(t, statesText)
	greatest := impl.WordState{Values: []int{0, 3, 7, 0, 1, 7, 0, 0, 0, 0}, Words: []int{7, 7, 7, 7, 1, 1, 1, 1}}
	least := impl.WordState{Values: make([]int, 10), Words: make([]int, 8)}
	for _, st := range []impl.WordState{greatest, least} {
		if !impl.WordStateOk(m, st) {
			t.Errorf("WordStateOk is false for %v", st)
		}
		for _, n := range append(extremes(), 6, 7, 8, 9) {
			for s, last := range greatest.Values {
				other := roomy(st)
				other.Values[s] = n
				if got := impl.WordStateOk(m, other); got != (n >= 0 && n <= last) {
					t.Errorf("WordStateOk = %v where signal %d is %d", got, s, n)
				}
				checkCycle(t, "another value", m, other, []int{1, 2, 3})
			}
			for a, last := range greatest.Words {
				other := roomy(st)
				other.Words[a] = n
				if got := impl.WordStateOk(m, other); got != (n >= 0 && n <= last) {
					t.Errorf("WordStateOk = %v where word %d is %d", got, a, n)
				}
				checkCycle(t, "another word", m, other, []int{1, 2, 3})
			}
		}
	}
}

// TestWordStateOkOfAllWidths checks the ends of the ranges for each kind of signal and each width.
func TestWordStateOkOfAllWidths(t *testing.T) {
	for width := 1; width <= 4; width++ {
		m := readModule(t, fmt.Sprintf("in %d\nout %d\nwire %d\nreg %d 15\nin 2\nwire 1\nset s5 1\nset s2 1\nset s3 1\nmem s4 s2 s5 s1", width, width, width, width))
		for n := -1; n <= 17; n++ {
			for s := range 6 {
				st := impl.FlatStart(m)
				st.Values[s] = n
				want := n == 0 || (s == 1 || s == 3) && n > 0 && n < 1<<width
				if got := impl.WordStateOk(m, st); got != want {
					t.Errorf("WordStateOk = %v where signal %d of width %d is %d", got, s, width, n)
				}
			}
			for a := range 4 {
				st := impl.FlatStart(m)
				st.Words[a] = n
				if got := impl.WordStateOk(m, st); got != (n >= 0 && n < 1<<width) {
					t.Errorf("WordStateOk = %v where a word of width %d is %d", got, width, n)
				}
			}
		}
	}
}

func TestWordStateOkLengths(t *testing.T) {
	for _, m := range flatModules(t) {
		ins := make([]int, len(portWidths(m, 0)))
		for valueCount := range len(m.Signals) + 3 {
			for wordCount := range 4*len(m.Mems) + 6 {
				st := impl.WordState{Values: make([]int, valueCount), Words: make([]int, wordCount)}
				ok := valueCount == len(m.Signals) && wordCount == 4*len(m.Mems)
				if got := impl.WordStateOk(m, st); got != ok {
					t.Errorf("WordStateOk = %v for %d values and %d words, of %v", got, valueCount, wordCount, m)
				}
				next, outs := impl.FlatStep(m, st, ins)
				if got := impl.SignalValues(m, st, ins); !ok && (got != nil || outs != nil || next.Values != nil || next.Words != nil) {
					t.Errorf("SignalValues = %v and FlatStep = %v, %v for %d values and %d words, of %v", got, next, outs, valueCount, wordCount, m)
				}
				checkCycle(t, "other lengths", m, st, ins)
			}
		}
		if got := impl.WordStateOk(m, impl.WordState{}); got != (len(m.Signals) == 0) {
			t.Errorf("WordStateOk = %v for nil, of %v", got, m)
		}
	}
}

// modulesThatAreNotFlat returns modules that are valid alone and not flat.
func modulesThatAreNotFlat(t *testing.T) map[string]impl.Module {
	t.Helper()
	return map[string]impl.Module{
		"an input of width 0":    readModule(t, "in W"),
		"a register of width 0":  readModule(t, "in 1\nreg W 5\nset s1 s0"),
		"a constant W":           readModule(t, "in 1\nout 2\nset s1 W"),
		"a wire reads itself":    readModule(t, "in 1\nwire 2\nset s1 s1"),
		"too many inputs":        readModule(t, "in 1\nin 4\nin 4"),
		"too many outputs":       readModule(t, "in 1\nout 4\nout 4\nout 1\nset s1 1\nset s2 1\nset s3 1"),
		"too many registers":     readModule(t, "in 1\nreg 4 0\nreg 4 0\nreg 4 0\nreg 1 0\nset s1 1\nset s2 1\nset s3 1\nset s4 1"),
		"an address of width 1":  readModule(t, "in 1\nwire 1\nmem s0 s0 s0 s1"),
		"a memory of two widths": readModule(t, "in 1\nin 2\nwire 1\nmem s1 s1 s0 s2"),
	}
}

func TestWordsOfModulesThatAreNotFlat(t *testing.T) {
	flat := readModule(t, "wire 2\nwire 3\nwire 1\nwire 4\nwire 3\nin 2\nset s0 1\nset s1 1\nset s2 1\nset s3 1\nmem s0 s1 s2 s4")
	modules := invalidModules(flat)
	for what, m := range modulesThatAreNotFlat(t) {
		modules[what] = m
	}
	for what, m := range modules {
		ins := make([]int, len(portWidths(m, 0)))
		for _, st := range []impl.WordState{{}, {Values: make([]int, len(m.Signals)), Words: make([]int, 4*len(m.Mems))}} {
			if impl.WordStateOk(m, st) {
				t.Errorf("%s: WordStateOk is true for %v", what, st)
			}
			for _, list := range [][]int{nil, ins} {
				next, outs := impl.FlatStep(m, st, list)
				if next.Values != nil || next.Words != nil || outs != nil {
					t.Errorf("%s: FlatStep = %v, %v", what, next, outs)
				}
				if got := impl.SignalValues(m, st, list); got != nil {
					t.Errorf("%s: SignalValues = %v", what, got)
				}
			}
		}
		if st := impl.FlatStart(m); st.Values != nil || st.Words != nil {
			t.Errorf("%s: FlatStart = %v", what, st)
		}
		for _, list := range [][][]int{nil, {ins}, {ins, ins, ins}, {nil}} {
			if run, trace := impl.FlatRun(m, list), impl.FlatTrace(m, list); run != nil || trace != nil {
				t.Errorf("%s: FlatRun = %v, FlatTrace = %v", what, run, trace)
			}
		}
	}
}

func TestFlatStart(t *testing.T) {
	for width := 1; width <= 4; width++ {
		for init := range 16 {
			m := readModule(t, fmt.Sprintf("in 2\nreg %d %d\nwire 1\nreg 4 %d\nwire 1\nset s2 1\nset s1 1\nset s3 1\nmem s0 s2 s2 s4", width, init, init))
			want := impl.WordState{Values: []int{0, init % (1 << width), 0, init, 0}, Words: []int{0, 0, 0, 0}}
			if st := impl.FlatStart(m); !sameState(st, want) || !impl.WordStateOk(m, st) {
				t.Errorf("FlatStart of registers of the widths %d and 4 with the Init %d = %v", width, init, st)
			}
		}
	}
	if st := impl.FlatStart(impl.Module{}); len(st.Values) != 0 || len(st.Words) != 0 || !impl.WordStateOk(impl.Module{}, st) {
		t.Error("FlatStart of no signals =", st)
	}
	for _, m := range flatModules(t) {
		if st := impl.FlatStart(m); !impl.WordStateOk(m, st) || !sameState(st, startOf(m)) {
			t.Errorf("FlatStart = %v of %v", st, m)
		}
	}
}

// checkValues checks the values of all signals in the first cycle of a module with the given lines.
func checkValues(t *testing.T, lines string, ins []int, want ...int) {
	t.Helper()
	m := readModule(t, lines)
	if got := impl.SignalValues(m, impl.FlatStart(m), ins); !slices.Equal(got, want) {
		t.Errorf("SignalValues = %v, want %v, for the inputs %v of %q", got, want, ins, lines)
	}
	checkCycle(t, lines, m, startOf(m), ins)
	checkRun(t, lines, m, [][]int{ins, ins, ins})
}

func TestSignalValues(t *testing.T) {
	checkValues(t, "in 4\nwire 4\nwire 4\nout 4\nset s3 + s2 1\nset s2 + s1 1\nset s1 + s0 1", []int{5}, 5, 6, 7, 8)
	checkValues(t, "out 4\nwire 4\nwire 4\nin 4\nset s0 + s1 1\nset s2 + s3 1\nset s1 + s2 1", []int{14}, 1, 0, 15, 14)
	checkValues(t, "out 4\nout 3\nin 4\nset s0 ~ s1\nset s1 ~ s2", []int{9}, 9, 6, 9)
	// The expression is wider than its target: all of its operands are truncated.
	checkValues(t, "out 1\nin 4\nin 4\nset s0 = s1 s2", []int{1, 3}, 1, 1, 3)
	checkValues(t, "out 1\nin 4\nin 4\nset s0 = s1 s2", []int{1, 2}, 0, 1, 2)
	checkValues(t, "out 1\nin 4\nin 4\nset s0 < s1 s2", []int{1, 2}, 0, 1, 2)
	checkValues(t, "out 1\nin 4\nin 4\nset s0 < s1 s2", []int{2, 1}, 1, 2, 1)
	checkValues(t, "out 2\nin 4\nset s0 ? s1 1 2", []int{12}, 2, 12)
	checkValues(t, "out 2\nin 4\nset s0 + s1 15", []int{12}, 3, 12)
	checkValues(t, "out 1\nin 4\nset s0 s1.3", []int{8}, 1, 8)
	checkValues(t, "out 1\nin 4\nset s0 s1", []int{8}, 0, 8)
	// The expression is narrower than its target.
	checkValues(t, "out 4\nin 1\nset s0 ~ s1", []int{0}, 15, 0)
	checkValues(t, "out 4\nin 1\nset s0 - 0 s1", []int{1}, 15, 1)
	checkValues(t, "out 4\nin 2\nset s0 + s1 s1", []int{3}, 6, 3)
	checkValues(t, "out 4\nin 1\nset s0 s1.1", []int{15}, 0, 1)
	checkValues(t, "out 4\nin 3\nset s0 s1.3", []int{15}, 0, 7)
	// A register has its value in the state, whatever its next one is.
	checkValues(t, "reg 3 5\nout 3\nin 1\nset s0 + s0 1\nset s1 + s0 2", []int{1}, 5, 7, 1)
	checkValues(t, "reg 2 7\nout 4\nset s1 s0\nset s0 0", nil, 3, 3)
	// The Out of a memory has its value in the state, too.
	checkValues(t, "in 2\nin 1\nout 3\nin 3\nwire 3\nset s4 + s2 1\nmem s0 s3 s1 s2", []int{1, 1, 6}, 1, 1, 0, 6, 1)
	checkValues(t, "", nil)
}

func TestSignalValuesOfStates(t *testing.T) {
	m := readModule(t, statesText)
	st := impl.WordState{Values: []int{0, 2, 5, 0, 1, 4, 0, 0, 0, 0}, Words: []int{1, 2, 3, 4, 0, 1, 0, 1}}
	// The wires are 4+7 in three bits and 3 XOR 2.
	if got, want := impl.SignalValues(m, st, []int{3, 15, 2}), []int{3, 2, 5, 7, 1, 4, 0, 3, 3, 1}; !slices.Equal(got, want) {
		t.Errorf("SignalValues = %v, want %v", got, want)
	}
	next, outs := impl.FlatStep(m, st, []int{3, 15, 2})
	want := impl.WordState{Values: []int{0, 3, 4, 0, 1, 3, 0, 0, 0, 0}, Words: []int{1, 2, 3, 4, 0, 0, 0, 1}}
	if !sameState(next, want) || !slices.Equal(outs, []int{5, 3}) {
		t.Errorf("FlatStep = %v, %v, want %v", next, outs, want)
	}
}

// TestNumberOfInputs checks lists of inputs of all lengths, in one cycle and in one cycle of a run.
func TestNumberOfInputs(t *testing.T) {
	for _, m := range flatModules(t) {
		count := len(portWidths(m, 0))
		st := impl.FlatStart(m)
		for length := range count + 3 {
			ins := slices.Repeat([]int{1}, length)
			next, outs := impl.FlatStep(m, st, ins)
			if got := impl.SignalValues(m, st, ins); length != count && (got != nil || outs != nil || next.Values != nil || next.Words != nil) {
				t.Errorf("SignalValues = %v and FlatStep = %v, %v for %d inputs of %v", got, next, outs, length, m)
			}
			checkCycle(t, "other lengths", m, st, ins)
			for cycles := 1; cycles <= 16; cycles++ {
				for place := range cycles {
					list := slices.Repeat([][]int{slices.Repeat([]int{1}, count)}, cycles)
					list[place] = ins
					run, trace := impl.FlatRun(m, list), impl.FlatTrace(m, list)
					if length == count && (len(run) != cycles || len(trace) != cycles) || length != count && (run != nil || trace != nil) {
						t.Errorf("FlatRun = %v and FlatTrace = %v for %d inputs in cycle %d of %v", run, trace, length, place, m)
					}
				}
			}
		}
		checkCycle(t, "nil", m, st, nil)
		checkRun(t, "nil", m, [][]int{nil})
	}
}

// TestInputsWithinTheirWidths checks that only the low bits of inputs count.
func TestInputsWithinTheirWidths(t *testing.T) {
	for width := 1; width <= 4; width++ {
		m := readModule(t, fmt.Sprintf("in %d\nin 4\nout %d\nout 4\nset s2 s0\nset s3 s1", width, width))
		for _, n := range append(extremes(), -17, -9, -8, -7, -5, -4, -3, 6, 7, 8, 9) {
			low, four := modulo(n, width), modulo(n, 4)
			want := []int{low, four, low, four}
			if got := impl.SignalValues(m, impl.FlatStart(m), []int{n, n}); !slices.Equal(got, want) {
				t.Errorf("SignalValues = %v, want %v, for the input %d of width %d", got, want, n, width)
			}
			if got := impl.FlatRun(m, [][]int{{n, n}}); !sameLists(got, [][]int{want[2:]}) {
				t.Errorf("FlatRun = %v for the input %d of width %d", got, n, width)
			}
		}
	}
	m := readModule(t, "in 3\nout 3\nset s1 s0")
	for n, want := range map[int]int{-1: 7, -8: 0, -9: 7, 8: 0, 15: 7, 16: 0, math.MinInt64: 0, math.MaxInt64: 7, math.MaxInt64 - 1: 6} {
		if got := impl.SignalValues(m, impl.FlatStart(m), []int{n}); !slices.Equal(got, []int{want, want}) {
			t.Errorf("SignalValues = %v for the input %d", got, n)
		}
	}
}

// checkOutputs checks a run of a module with the given lines.
func checkOutputs(t *testing.T, lines string, ins [][]int, want [][]int) {
	t.Helper()
	m := readModule(t, lines)
	if got := impl.FlatRun(m, ins); !sameLists(got, want) {
		t.Errorf("FlatRun = %v, want %v, for the inputs %v of %q", got, want, ins, lines)
	}
	checkRun(t, lines, m, ins)
	checkSteps(t, lines, m, ins)
}

func TestFlatStepRegisters(t *testing.T) {
	exchange := "reg 3 6\nreg 3 1\nout 3\nout 3\nset s0 s1\nset s1 s0\nset s2 s0\nset s3 s1"
	checkOutputs(t, exchange, make([][]int, 5), [][]int{{6, 1}, {1, 6}, {6, 1}, {1, 6}, {6, 1}})
	m := readModule(t, exchange)
	next, outs := impl.FlatStep(m, impl.FlatStart(m), nil)
	if !sameState(next, impl.WordState{Values: []int{1, 6, 0, 0}}) || !slices.Equal(outs, []int{6, 1}) {
		t.Errorf("FlatStep = %v, %v", next, outs)
	}
	// The outputs come in the order of the signals, not of the assignments.
	checkOutputs(t, "out 2\nreg 2 1\nout 3\nin 3\nout 1\nset s4 1\nset s2 s3\nset s1 + s1 1\nset s0 s1",
		[][]int{{4}, {5}, {6}}, [][]int{{1, 4, 1}, {2, 5, 1}, {3, 6, 1}})
	// Registers of different widths take what is left of the other one.
	checkOutputs(t, "reg 2 3\nreg 4 13\nout 2\nout 4\nset s0 s1\nset s1 s0\nset s2 s0\nset s3 s1", make([][]int, 3), [][]int{{3, 13}, {1, 3}, {3, 1}})
	// A chain delays its input, and a wire between registers does not.
	checkOutputs(t, "in 2\nreg 2 1\nreg 2 2\nwire 2\nout 2\nset s4 s2\nset s2 s3\nset s3 s1\nset s1 s0",
		[][]int{{3}, {0}, {2}, {1}, {0}}, [][]int{{2}, {1}, {3}, {0}, {2}})
	checkOutputs(t, "in 1\nreg 1 0\nout 1\nset s1 ^ s1 s0\nset s2 ^ s1 s0", [][]int{{1}, {1}, {0}, {1}, {0}}, [][]int{{1}, {0}, {0}, {1}, {1}})
}

// memoryText has a memory with the inputs Addr, Data and Write.
const memoryText = "in 2\nin 3\nin 1\nout 3\nmem s0 s1 s2 s3"

func TestFlatStepMemories(t *testing.T) {
	m := readModule(t, memoryText)
	st := impl.WordState{Values: []int{0, 0, 0, 6}, Words: []int{1, 3, 5, 7}}
	for address, word := range st.Words {
		for data := range 8 {
			next, outs := impl.FlatStep(m, st, []int{address, data, 0})
			want := impl.WordState{Values: []int{0, 0, 0, word}, Words: []int{1, 3, 5, 7}}
			if !sameState(next, want) || !slices.Equal(outs, []int{6}) {
				t.Errorf("FlatStep with Write 0 = %v, %v, want %v", next, outs, want)
			}
			next, outs = impl.FlatStep(m, st, []int{address, data, 1})
			want.Words[address] = data
			if !sameState(next, want) || !slices.Equal(outs, []int{6}) {
				t.Errorf("FlatStep with Write 1 = %v, %v, want %v", next, outs, want)
			}
		}
	}
	// What is written is read one cycle later at the earliest, and shows in the cycle after this.
	checkOutputs(t, memoryText, [][]int{{1, 5, 1}, {1, 6, 1}, {1, 7, 0}, {1, 0, 0}, {2, 4, 1}, {2, 3, 0}, {1, 2, 0}, {0, 0, 0}, {0, 0, 0}},
		[][]int{{0}, {0}, {5}, {6}, {6}, {0}, {4}, {6}, {0}})
}

func TestFlatStepTwoMemories(t *testing.T) {
	// Both have the same address and data; the second one is written where the first one is not.
	two := "in 2\nin 3\nin 1\nout 3\nout 3\nwire 1\nset s5 ~ s2\nmem s0 s1 s2 s3\nmem s0 s1 s5 s4"
	checkOutputs(t, two, [][]int{{3, 5, 1}, {3, 6, 0}, {3, 0, 1}, {0, 0, 1}}, [][]int{{0, 0}, {0, 0}, {5, 0}, {5, 6}})
	// Each reads what the other one has.
	crossed := "in 2\nin 1\nout 2\nout 2\nwire 2\nset s4 + s3 1\nmem s0 s4 s1 s2\nmem s0 s2 s1 s3"
	checkOutputs(t, crossed, slices.Repeat([][]int{{0, 1}}, 7), [][]int{{0, 0}, {0, 0}, {1, 0}, {1, 0}, {1, 1}, {1, 1}, {2, 1}})
	// A memory that is its own address, and one that is written with its own word.
	checkOutputs(t, "out 2\nin 1\nin 2\nmem s0 s2 s1 s0", [][]int{{1, 2}, {0, 0}, {1, 3}, {1, 1}, {0, 0}, {0, 0}}, [][]int{{0}, {0}, {2}, {0}, {2}, {3}})
	checkOutputs(t, "out 1\nin 2\nin 1\nwire 1\nset s3 ~ s0\nmem s1 s3 s2 s0", [][]int{{0, 1}, {0, 0}, {0, 1}, {0, 0}, {0, 0}}, [][]int{{0}, {0}, {1}, {1}, {0}})
}

// smallModules returns flat modules that have few states and inputs.
func smallModules(t *testing.T) []impl.Module {
	t.Helper()
	return []impl.Module{
		readModule(t, "in 2\nin 1\nin 1\nout 1\nmem s0 s1 s2 s3"),
		readModule(t, "reg 2 1\nreg 3 5\nin 2\nout 3\nset s0 + s1 s2\nset s1 ? s2.1 - s0 s1 s3\nset s3 ^ s1 s2"),
		readModule(t, "wire 1\nreg 2 2\nin 1\nout 1\nset s1 + s1 s0\nset s3 = s1 3\nmem s1 s2 s3 s0"),
		readModule(t, "in 4\nin 4\nout 4\nset s2 - s0 s1"),
	}
}

// eachCycle calls visit with all states and inputs of a flat module.
func eachCycle(m impl.Module, visit func(st impl.WordState, ins []int)) {
	greatest := greatestState(m)
	limits := slices.Concat(greatest.Values, greatest.Words)
	for _, width := range portWidths(m, 0) {
		limits = append(limits, 1<<width-1)
	}
	all := make([]int, len(limits))
	values, words := len(m.Signals), len(m.Signals)+4*len(m.Mems)
	for more := true; more; more = countUp(all, limits) {
		visit(impl.WordState{Values: all[:values], Words: all[values:words]}, all[words:])
	}
}

func TestAllCycles(t *testing.T) {
	for _, m := range smallModules(t) {
		eachCycle(m, func(st impl.WordState, ins []int) { checkCycle(t, "a small module", m, st, ins) })
	}
}

// countUp changes a list to the next one in which each number is from 0 to a limit, and reports
// whether there is one.
func countUp(list []int, limits []int) bool {
	for i, last := range limits {
		if list[i] < last {
			list[i]++
			return true
		}
		list[i] = 0
	}
	return false
}

func TestFlatRunOfSample(t *testing.T) {
	ins := [][]int{{1}, {1}, {0}, {1}, {3}, {2}, {-1}, {1}, {0}, {5}, {1}, {1}, {1}, {-2}, {1}, {1}}
	counts := []int{0, 1, 2, 2, 3, 4, 4, 5, 6, 6, 7, 8, 9, 10, 10, 11}
	for param := 1; param <= 4; param++ {
		flat, ok := impl.Flatten(impl.SampleDesign(), param)
		var want [][]int
		for _, n := range counts {
			want = append(want, []int{n % (1 << param)})
		}
		if got := impl.FlatRun(flat, ins); !ok || !sameLists(got, want) {
			t.Errorf("FlatRun with the parameter %d = %v, want %v", param, got, want)
		}
		counter, _ := impl.InstanceOf(impl.SampleDesign(), 0)
		alone, ok := impl.Flatten(counter, param)
		if got := impl.FlatRun(alone, ins); !ok || !sameLists(got, want) {
			t.Errorf("FlatRun of module 0 with the parameter %d = %v, want %v", param, got, want)
		}
		// The trace has the input, the output and the register.
		for i, values := range impl.FlatTrace(flat, ins) {
			if want := []int{modulo(ins[i][0], 1), want[i][0], want[i][0]}; !slices.Equal(values, want) {
				t.Errorf("FlatTrace in cycle %d = %v, want %v", i, values, want)
			}
		}
		checkSteps(t, "sample", flat, ins)
	}
}

func TestNumberOfCycles(t *testing.T) {
	for _, m := range flatModules(t) {
		for cycles := range 40 {
			ins := someInputs(m, cycles, picker(uint64(cycles)))
			run, trace := impl.FlatRun(m, ins), impl.FlatTrace(m, ins)
			if cycles <= 16 && (len(run) != cycles || len(trace) != cycles) || cycles > 16 && (run != nil || trace != nil) {
				t.Errorf("FlatRun = %v and FlatTrace = %v for %d cycles of %v", run, trace, cycles, m)
			}
			checkRun(t, "a number of cycles", m, ins)
		}
		checkRun(t, "no cycles", m, nil)
		checkRun(t, "no cycles", m, [][]int{})
	}
}

func TestRunsWithoutPorts(t *testing.T) {
	// Without inputs there is an empty list in each cycle; without outputs an empty one is returned.
	checkOutputs(t, "reg 4 14\nout 4\nset s0 + s0 1\nset s1 s0", make([][]int, 4), [][]int{{14}, {15}, {0}, {1}})
	checkOutputs(t, "out 2\nset s0 3", [][]int{{}, nil, {}}, [][]int{{3}, {3}, {3}})
	checkOutputs(t, "in 2\nreg 2 0\nset s1 s0", [][]int{{1}, {2}}, make([][]int, 2))
	checkOutputs(t, "in 2", [][]int{{1}, {2}, {3}}, make([][]int, 3))
	checkOutputs(t, "", make([][]int, 3), make([][]int, 3))
	for cycles := range 20 {
		run, trace := impl.FlatRun(impl.Module{}, make([][]int, cycles)), impl.FlatTrace(impl.Module{}, make([][]int, cycles))
		want := cycles
		if cycles > 16 {
			want = 0
		}
		if len(run) != want || len(trace) != want {
			t.Errorf("%d lists of outputs and %d of values in %d cycles without signals", len(run), len(trace), cycles)
		}
	}
}

// TestStepsOfFlatModules checks scattered states and inputs, and runs of them.
func TestStepsOfFlatModules(t *testing.T) {
	pick := picker(7)
	for _, m := range flatModules(t) {
		for range 200 {
			checkCycle(t, "a scattered state", m, someState(m, pick), someInputs(m, 1, pick)[0])
		}
		for cycles := range 17 {
			ins := someInputs(m, cycles, pick)
			checkRun(t, "a run", m, ins)
			checkSteps(t, "a run", m, ins)
		}
	}
}

// TestStatesOfChangedModules changes one number of a module or of its state at a time.
func TestStatesOfChangedModules(t *testing.T) {
	pick := picker(11)
	for _, lines := range []string{statesText, flatText, memoryText} {
		m := readModule(t, lines)
		ins := someInputs(m, 8, pick)
		st := someState(m, pick)
		flat := 0
		eachChange(alone(m), append(extremes(), 6, 7, 8, 9, 10, 11), func(what string, d impl.Design) {
			for _, m := range d.Modules {
				checkCycle(t, what, m, st, ins[0])
				checkRun(t, what, m, ins)
				flat += asNumber(impl.FlatOk(m))
			}
		})
		if flat < 15 {
			t.Errorf("only %d flat modules like %q", flat, lines)
		}
		parts(reflect.ValueOf(&st).Elem(), reflect.Int, func(number reflect.Value) {
			before := number.Int()
			for _, other := range append(extremes(), 6, 7, 8, 9, 10, 11) {
				number.SetInt(int64(other))
				checkCycle(t, "another state", m, st, ins[1])
			}
			number.SetInt(before)
		})
	}
}

// TestInstances checks that instances behave like their modules alone, in designs with one change.
func TestInstances(t *testing.T) {
	pick := picker(13)
	runs, instances := 0, 0
	for _, d := range append(designs(t), driverKinds()) {
		eachChange(d, append(upTo(16), -1), func(what string, d impl.Design) {
			for param := 1; param <= 4; param++ {
				for k := range d.Modules {
					part, _ := impl.InstanceOf(d, k)
					instances += checkInstances(t, what, part, param, pick)
				}
				if flat, ok := impl.Flatten(d, param); ok {
					checkRun(t, what, flat, someInputs(flat, 5, pick))
					checkSteps(t, what, flat, someInputs(flat, 3, pick))
					runs++
				}
			}
		})
	}
	if runs < 1000 || instances < 1000 {
		t.Error("only", runs, "runs and", instances, "instances")
	}
}

// TestInstanceBesideAnother checks two instances of a counter in one design, one of which counts
// when the other one is 3.
func TestInstanceBesideAnother(t *testing.T) {
	text := "module\nin 1\nout W\nreg W 0\nset s2 ? s0 + s2 1 s2\nset s1 s2\nend\nmodule\nin 1\nout 2\nout W\nwire 1\nset s3 & s1.0 s1.1\nuse m0 2 s0 s1\nuse m0 W s3 s2\nend\n"
	ins := [][]int{{1}, {1}, {1}, {0}, {1}, {1}, {1}, {1}, {1}}
	want := [][]int{{0, 0}, {1, 0}, {2, 0}, {3, 0}, {3, 1}, {0, 2}, {1, 2}, {2, 2}, {3, 2}}
	flat, ok := impl.Flatten(read(t, text), 3)
	if !ok {
		t.Fatal("the design is not flattened")
	}
	if got := impl.FlatRun(flat, ins); !sameLists(got, want) {
		t.Errorf("FlatRun = %v, want %v", got, want)
	}
	for param := 1; param <= 4; param++ {
		if checkInstances(t, "two counters", read(t, text), param, picker(3)) != 2 {
			t.Error("two instances are not compared")
		}
	}
}

// checkOwnWords checks that no function of Chapter 7 changes its arguments or shares memory with
// them or within its result.
func checkOwnWords(t *testing.T, original impl.Module, state impl.WordState, inputs [][]int) {
	t.Helper()
	m, st, ins := roomy(original), roomy(state), roomy(inputs)
	start := impl.FlatStart(m)
	run, trace := impl.FlatRun(m, ins), impl.FlatTrace(m, ins)
	shared := []any{m, st, ins, start, run, trace}
	for _, list := range append(ins, nil) {
		next, outs := impl.FlatStep(m, st, list)
		shared = append(shared, next, outs, impl.SignalValues(m, st, list))
		impl.WordStateOk(m, st)
	}
	for _, a := range m.Assigns {
		for width := range 6 {
			impl.ExprValue(a.Ops, st.Values, width)
		}
	}
	if sharesMemory(shared...) {
		t.Errorf("results share memory, for %v", original)
	}
	for _, list := range append(slices.Concat(run, trace), start.Values, start.Words) {
		clear(list[:cap(list)])
	}
	if !untouched(m, roomy(original)) || !untouched(st, roomy(state)) || !untouched(ins, roomy(inputs)) {
		t.Errorf("%v, %v or %v was changed to %v, %v and %v", original, state, inputs, m, st, ins)
	}
}

func TestWordMemory(t *testing.T) {
	pick := picker(17)
	for _, m := range append(flatModules(t), driverKinds().Modules...) {
		for cycles := range 18 {
			ins := someInputs(m, cycles, pick)
			if flatOk(m) {
				checkOwnWords(t, m, someState(m, pick), ins)
			}
			checkOwnWords(t, m, impl.WordState{Values: []int{-1, 99}, Words: []int{16}}, ins)
			checkOwnWords(t, m, impl.WordState{}, append(ins, []int{1, 2, 3, 4, 5}))
		}
	}
	// Parts of one argument may share memory; a result has its own.
	m := readModule(t, memoryText)
	same := []int{1, 0, 1, 0}
	st := impl.WordState{Values: []int{0, 0, 0, 1}, Words: same}
	ins := slices.Repeat([][]int{same[:3]}, 4)
	next, outs := impl.FlatStep(m, st, ins[0])
	if sharesMemory(same, next, outs, impl.FlatRun(m, ins), impl.FlatTrace(m, ins), impl.SignalValues(m, st, ins[0])) {
		t.Error("results share memory where the arguments do")
	}
	if !slices.Equal(same, []int{1, 0, 1, 0}) {
		t.Error("the argument was changed to", same)
	}
}
