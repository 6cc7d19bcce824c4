package tests

import (
	"math"
	"reflect"
	"slices"
	"testing"

	"loop.example/g03311/impl"
)

// extremes returns numbers around the limits of Chapter 4 and the ends of int.
func extremes() []int {
	return []int{
		math.MinInt64, math.MinInt64 + 1, -1 << 32, -16, -2, -1, 0, 1, 2, 3, 4, 5, 12, 13, 14, 15, 16, 17,
		29, 30, 31, 63, 64, 1 << 32, math.MaxInt64 - 1, math.MaxInt64,
	}
}

// arities returns the number of operands of each kind of operator.
func arities() []int {
	return []int{0, 0, 0, 0, 1, 2, 2, 2, 2, 2, 2, 2, 3}
}

func constant(a int) impl.Op { return impl.Op{Kind: impl.OpConst, A: a} }

func readSignal(s int) impl.Op { return impl.Op{Kind: impl.OpSignal, A: s} }

func operator(kind int) impl.Op { return impl.Op{Kind: kind} }

// expression returns the operators of the given kinds, with fields that are valid if there is a
// signal.
func expression(kinds ...int) []impl.Op {
	var ops []impl.Op
	for _, kind := range kinds {
		ops = append(ops, operator(kind))
	}
	return ops
}

// endOfExpression returns where the expression ends that begins at start, by recursive descent; -1
// if the list ends before it.
func endOfExpression(ops []impl.Op, start int) int {
	if start >= len(ops) {
		return -1
	}
	end := start + 1
	for range arities()[ops[start].Kind] {
		if end = endOfExpression(ops, end); end == -1 {
			return -1
		}
	}
	return end
}

// sequences returns all lists of the given kinds with the given length.
func sequences(kinds []int, length int) [][]int {
	list := [][]int{nil}
	for range length {
		var longer [][]int
		for _, sequence := range list {
			for _, kind := range kinds {
				longer = append(longer, append(slices.Clone(sequence), kind))
			}
		}
		list = longer
	}
	return list
}

func TestDesignConstants(t *testing.T) {
	limits := []int{impl.MaxModules, impl.MaxSignals, impl.MaxAssigns, impl.MaxInsts, impl.MaxMems, impl.MaxOps, impl.MaxWidth}
	if want := []int{4, 30, 30, 3, 2, 15, 4}; !slices.Equal(limits, want) {
		t.Error("limits", limits, "want", want)
	}
	kinds := []int{impl.SigIn, impl.SigOut, impl.SigWire, impl.SigReg}
	if want := []int{0, 1, 2, 3}; !slices.Equal(kinds, want) {
		t.Error("kinds of signals", kinds, "want", want)
	}
	operators := []int{
		impl.OpConst, impl.OpParam, impl.OpSignal, impl.OpBit, impl.OpNot, impl.OpAnd, impl.OpOr,
		impl.OpXor, impl.OpAdd, impl.OpSub, impl.OpEqual, impl.OpLess, impl.OpMux,
	}
	if want := []int{0, 1, 2, 3, 4, 5, 6, 7, 8, 9, 10, 11, 12}; !slices.Equal(operators, want) {
		t.Error("kinds of operators", operators, "want", want)
	}
}

func TestOpArity(t *testing.T) {
	for kind, want := range arities() {
		if got := impl.OpArity(kind); got != want {
			t.Errorf("OpArity(%d) = %d, want %d", kind, got, want)
		}
	}
	for _, kind := range extremes() {
		if kind >= 0 && kind <= 12 {
			continue
		}
		if got := impl.OpArity(kind); got != -1 {
			t.Errorf("OpArity(%d) = %d", kind, got)
		}
	}
}

// fieldsOk reports whether A and B of an operator are in the ranges of its kind.
func fieldsOk(o impl.Op, signals int) bool {
	// The first number that is too large for A, and the one for B; 1 leaves nothing but 0.
	limitA, limitB := 1, 1
	switch o.Kind {
	case impl.OpConst:
		limitA = 16
	case impl.OpSignal:
		limitA = signals
	case impl.OpBit:
		limitA, limitB = signals, 4
	}
	return o.Kind >= 0 && o.Kind <= 12 && 0 <= o.A && o.A < limitA && 0 <= o.B && o.B < limitB
}

func TestOpsOkFields(t *testing.T) {
	for _, signals := range []int{math.MinInt64, -1, 0, 1, 2, 4, 15, 16, 29, 30, 31, math.MaxInt64} {
		for kind := -2; kind <= 14; kind++ {
			for _, a := range extremes() {
				for _, b := range extremes() {
					o := impl.Op{Kind: kind, A: a, B: b}
					ops := []impl.Op{o}
					if kind >= 0 && kind <= 12 {
						ops = append(ops, slices.Repeat([]impl.Op{constant(15)}, arities()[kind])...)
					}
					want := fieldsOk(o, signals)
					if impl.OpsOk(ops, signals) != want {
						t.Errorf("OpsOk(%v, %d) = %v", ops, signals, !want)
					}
					inner := append([]impl.Op{operator(impl.OpEqual), constant(0)}, ops...)
					if impl.OpsOk(inner, signals) != want {
						t.Errorf("OpsOk(%v, %d) = %v", inner, signals, !want)
					}
				}
			}
		}
	}
}

func TestOpsOkUnknownKind(t *testing.T) {
	for _, kind := range extremes() {
		if kind >= 0 && kind <= 12 {
			continue
		}
		for operands := range 5 {
			ops := append([]impl.Op{operator(kind)}, slices.Repeat([]impl.Op{constant(1)}, operands)...)
			if impl.OpsOk(ops, 30) {
				t.Errorf("OpsOk(%v, 30)", ops)
			}
			if ops = append([]impl.Op{operator(impl.OpNot)}, ops...); impl.OpsOk(ops, 30) {
				t.Errorf("OpsOk(%v, 30)", ops)
			}
		}
	}
}

// checkShape checks OpsOk for a list of valid operators.
func checkShape(t *testing.T, ops []impl.Op) {
	t.Helper()
	want := endOfExpression(ops, 0) == len(ops)
	if got := impl.OpsOk(ops, 1); got != want {
		t.Errorf("OpsOk(%v, 1) = %v", ops, got)
	}
}

func TestOpsOkShape(t *testing.T) {
	for length := range 5 {
		for _, kinds := range sequences(upTo(13), length) {
			checkShape(t, expression(kinds...))
		}
	}
	for length := 5; length <= 8; length++ {
		for _, kinds := range sequences([]int{impl.OpBit, impl.OpNot, impl.OpLess, impl.OpMux}, length) {
			checkShape(t, expression(kinds...))
		}
	}
}

func TestOpsOkNamedCases(t *testing.T) {
	cases := []struct {
		ops  []impl.Op
		want bool
	}{
		{nil, false},
		{[]impl.Op{}, false},
		{[]impl.Op{constant(0)}, true},
		{[]impl.Op{operator(impl.OpParam)}, true},
		{[]impl.Op{operator(impl.OpNot)}, false},
		{[]impl.Op{operator(impl.OpAnd), constant(1)}, false},
		{[]impl.Op{operator(impl.OpAnd), constant(1), constant(2)}, true},
		{[]impl.Op{operator(impl.OpAnd), constant(1), constant(2), constant(3)}, false},
		{[]impl.Op{operator(impl.OpMux), constant(1), constant(2)}, false},
		{[]impl.Op{operator(impl.OpMux), readSignal(0), constant(1), constant(2)}, true},
		{[]impl.Op{constant(1), operator(impl.OpNot)}, false},
		{[]impl.Op{constant(1), constant(2), operator(impl.OpAnd)}, false},
		{[]impl.Op{constant(1), constant(1)}, false},
		{[]impl.Op{operator(impl.OpNot), operator(impl.OpNot), {Kind: impl.OpBit, A: 0, B: 3}}, true},
	}
	for _, c := range cases {
		if got := impl.OpsOk(c.ops, 1); got != c.want {
			t.Errorf("OpsOk(%v, 1) = %v", c.ops, got)
		}
	}
}

// longExpressions returns a complete expression with the given odd number of operators for each way
// of putting them: nested at the first operand, at the last one, and in a chain of OpNot.
func longExpressions(length int) [][]impl.Op {
	first := slices.Repeat([]impl.Op{operator(impl.OpXor)}, length/2)
	first = append(first, slices.Repeat([]impl.Op{constant(15)}, length/2+1)...)
	last := slices.Repeat([]impl.Op{operator(impl.OpSub), readSignal(0)}, length/2)
	last = append(last, constant(1))
	chain := append(slices.Repeat([]impl.Op{operator(impl.OpNot)}, length-1), operator(impl.OpParam))
	return [][]impl.Op{first, last, chain}
}

func TestOpsOkMaxOps(t *testing.T) {
	for length := 1; length <= 41; length += 2 {
		for _, ops := range longExpressions(length) {
			if got := impl.OpsOk(ops, 1); got != (length <= 15) {
				t.Errorf("OpsOk = %v for %d operators", got, length)
			}
			// With one more OpNot in front the numbers of operators are even.
			if got := impl.OpsOk(append([]impl.Op{operator(impl.OpNot)}, ops...), 1); got != (length+1 <= 15) {
				t.Errorf("OpsOk = %v for %d operators", got, length+1)
			}
		}
	}
	if impl.OpsOk(slices.Repeat([]impl.Op{operator(impl.OpMux)}, 100000), 1) {
		t.Error("OpsOk accepts a very long list")
	}
}

// TestExpressionsArePrefixCodes checks that no valid expression is the beginning of another one.
func TestExpressionsArePrefixCodes(t *testing.T) {
	for _, whole := range longExpressions(15) {
		for end := range whole {
			if impl.OpsOk(whole[:end], 1) {
				t.Errorf("OpsOk(%v) for the beginning of an expression", whole[:end])
			}
		}
	}
	for length := 1; length <= 6; length++ {
		for _, kinds := range sequences([]int{impl.OpSignal, impl.OpNot, impl.OpAdd, impl.OpMux}, length) {
			ops := expression(kinds...)
			if !impl.OpsOk(ops, 1) {
				continue
			}
			for end := range ops {
				if impl.OpsOk(ops[:end], 1) {
					t.Errorf("both %v and %v are expressions", ops, ops[:end])
				}
			}
		}
	}
}

// signalsOfKinds returns signals of width 1.
func signalsOfKinds(kinds ...int) []impl.Signal {
	var signals []impl.Signal
	for _, kind := range kinds {
		signals = append(signals, impl.Signal{Kind: kind, Width: 1})
	}
	return signals
}

func TestPortsOf(t *testing.T) {
	for length := range 6 {
		for _, kinds := range sequences([]int{-1, 0, 1, 2, 3, 4}, length) {
			var want []int
			for i, kind := range kinds {
				if kind == 0 || kind == 1 {
					want = append(want, i)
				}
			}
			if got := impl.PortsOf(impl.Module{Signals: signalsOfKinds(kinds...)}); !slices.Equal(got, want) {
				t.Errorf("PortsOf for the kinds %v = %v", kinds, got)
			}
		}
	}
	for _, kind := range extremes() {
		m := impl.Module{Signals: []impl.Signal{{Kind: kind, Width: math.MinInt64, Init: math.MaxInt64}}}
		if got, want := len(impl.PortsOf(m)) == 1, kind == 0 || kind == 1; got != want {
			t.Errorf("PortsOf for a signal of kind %d: %v", kind, impl.PortsOf(m))
		}
	}
}

func TestPortsOfMaxSignals(t *testing.T) {
	signals := slices.Repeat(signalsOfKinds(impl.SigOut, impl.SigIn, impl.SigIn), 11)
	for count := 28; count <= 33; count++ {
		got := impl.PortsOf(impl.Module{Signals: signals[:count]})
		if count <= 30 && !slices.Equal(got, upTo(count)) || count > 30 && got != nil {
			t.Errorf("PortsOf of %d ports = %v", count, got)
		}
	}
	// The other counts do not matter.
	m := impl.Module{
		Signals: signals[:2], Assigns: make([]impl.Assign, 31), Insts: make([]impl.Inst, 4), Mems: make([]impl.Mem, 3),
	}
	if got := impl.PortsOf(m); !slices.Equal(got, []int{0, 1}) {
		t.Error("PortsOf =", got)
	}
}

// assign returns an assignment of a constant.
func assign(target int) impl.Assign {
	return impl.Assign{Target: target, Ops: []impl.Op{constant(1)}}
}

// driverKinds is a design with a driver of each kind for each kind of signal that it can drive.
// Module 0 has the ports in, out, in, out around other signals; module 1 is empty; module 2 uses
// module 0 twice and module 1 once.
func driverKinds() impl.Design {
	leaf := impl.Module{
		Signals: []impl.Signal{
			{Kind: impl.SigReg, Width: 4, Init: 15}, {Kind: impl.SigIn}, {Kind: impl.SigOut, Width: 2},
			{Kind: impl.SigWire, Width: 1}, {Kind: impl.SigIn, Width: 4}, {Kind: impl.SigOut},
		},
		Assigns: []impl.Assign{
			assign(2),
			{Target: 0, Ops: []impl.Op{operator(impl.OpAdd), readSignal(0), readSignal(4)}},
			{Target: 5, Ops: []impl.Op{operator(impl.OpParam)}},
		},
		Mems: []impl.Mem{{Addr: 1, Data: 4, Write: 3, Out: 3}},
	}
	top := impl.Module{
		Signals: []impl.Signal{
			{Kind: impl.SigIn, Width: 1}, {Kind: impl.SigOut}, {Kind: impl.SigWire, Width: 3}, {Kind: impl.SigReg, Width: 4, Init: 9},
			{Kind: impl.SigOut, Width: 4}, {Kind: impl.SigWire}, {Kind: impl.SigOut, Width: 2}, {Kind: impl.SigWire, Width: 2}, {Kind: impl.SigIn},
		},
		Assigns: []impl.Assign{
			assign(1), assign(2),
			{Target: 3, Ops: []impl.Op{operator(impl.OpMux), {Kind: impl.OpBit, A: 3, B: 1}, readSignal(8), operator(impl.OpParam)}},
		},
		Insts: []impl.Inst{
			{Module: 0, Param: 0, Ports: []int{8, 4, 3, 5}},
			{Module: 1, Param: 2},
			{Module: 0, Param: 4, Ports: []int{0, 6, 0, 7}},
		},
	}
	return impl.Design{Modules: []impl.Module{leaf, {}, top}}
}

// driversOf returns who drives each signal of module k, written down one driver after the other.
func driversOf(d impl.Design, k int) []int {
	m := d.Modules[k]
	var driven []int
	for _, a := range m.Assigns {
		driven = append(driven, a.Target)
	}
	for _, mem := range m.Mems {
		driven = append(driven, mem.Out)
	}
	for _, inst := range m.Insts {
		next := 0
		for _, s := range d.Modules[inst.Module].Signals {
			switch s.Kind {
			case 1:
				driven = append(driven, inst.Ports[next])
				next++
			case 0:
				next++
			}
		}
	}
	return driven
}

// withinCounts reports whether the numbers of all parts of a design are within the limits.
func withinCounts(d impl.Design) bool {
	return len(d.Modules) <= 4 && !slices.ContainsFunc(d.Modules, func(m impl.Module) bool {
		return len(m.Signals) > 30 || len(m.Assigns) > 30 || len(m.Insts) > 3 || len(m.Mems) > 2
	})
}

// portCount returns the number of inputs and outputs of a module.
func portCount(m impl.Module) int {
	count := 0
	for _, s := range m.Signals {
		if s.Kind == 0 || s.Kind == 1 {
			count++
		}
	}
	return count
}

// connected reports whether the instances of module k name earlier modules and have as many Ports
// as these.
func connected(d impl.Design, k int) bool {
	return !slices.ContainsFunc(d.Modules[k].Insts, func(inst impl.Inst) bool {
		return inst.Module < 0 || inst.Module >= k || portCount(d.Modules[inst.Module]) != len(inst.Ports)
	})
}

// driverCount is DriverCount by the lists above.
func driverCount(d impl.Design, k int, s int) int {
	if !withinCounts(d) || k < 0 || k >= len(d.Modules) || !connected(d, k) || s < 0 || s >= len(d.Modules[k].Signals) {
		return -1
	}
	count := 0
	for _, driven := range driversOf(d, k) {
		if driven == s {
			count++
		}
	}
	return count
}

// signalFieldsOk reports whether the fields of a signal are in their ranges.
func signalFieldsOk(s impl.Signal) bool {
	lastInit := 0
	if s.Kind == 3 {
		lastInit = 15
	}
	return 0 <= s.Kind && s.Kind <= 3 && 0 <= s.Width && s.Width <= 4 && 0 <= s.Init && s.Init <= lastInit
}

// moduleOk is ModuleOk by another route: each list of drivers is compared with the list of signals
// that it may and must drive.
func moduleOk(d impl.Design, k int) bool {
	if !withinCounts(d) || k < 0 || k >= len(d.Modules) || !connected(d, k) {
		return false
	}
	m := d.Modules[k]
	exists := func(s int) bool { return 0 <= s && s < len(m.Signals) }
	var mustBeDriven []int
	for s, signal := range m.Signals {
		if !signalFieldsOk(signal) {
			return false
		}
		if signal.Kind != 0 {
			mustBeDriven = append(mustBeDriven, s)
		}
	}
	driven := driversOf(d, k)
	for i, s := range driven {
		// The drivers of the assignments come first; only these may drive a register.
		if exists(s) && i >= len(m.Assigns) && m.Signals[s].Kind == 3 {
			return false
		}
	}
	slices.Sort(driven)
	if !slices.Equal(driven, mustBeDriven) {
		return false
	}
	for _, a := range m.Assigns {
		if !expressionOk(a.Ops, len(m.Signals)) {
			return false
		}
	}
	for _, inst := range m.Insts {
		if inst.Param < 0 || inst.Param > 4 || slices.ContainsFunc(inst.Ports, func(s int) bool { return !exists(s) }) {
			return false
		}
	}
	for _, mem := range m.Mems {
		if !exists(mem.Addr) || !exists(mem.Data) || !exists(mem.Write) {
			return false
		}
	}
	return true
}

// expressionOk is OpsOk by recursive descent.
func expressionOk(ops []impl.Op, signals int) bool {
	if len(ops) > 15 || slices.ContainsFunc(ops, func(o impl.Op) bool { return !fieldsOk(o, signals) }) {
		return false
	}
	return endOfExpression(ops, 0) == len(ops)
}

// checkDesign checks all that Chapter 4 says about a design.
func checkDesign(t *testing.T, what string, d impl.Design) {
	t.Helper()
	all := len(d.Modules) > 0
	for k := -1; k <= len(d.Modules); k++ {
		signals := 0
		if k >= 0 && k < len(d.Modules) {
			all = all && moduleOk(d, k)
			signals = len(d.Modules[k].Signals)
		}
		if got, want := impl.ModuleOk(d, k), moduleOk(d, k); got != want {
			t.Errorf("%s: ModuleOk for module %d = %v", what, k, got)
		}
		for s := -1; s <= signals; s++ {
			if got, want := impl.DriverCount(d, k, s), driverCount(d, k, s); got != want {
				t.Errorf("%s: DriverCount for module %d, signal %d = %d, want %d", what, k, s, got, want)
			}
		}
	}
	if got := impl.DesignOk(d); got != all {
		t.Errorf("%s: DesignOk = %v", what, got)
	}
}

// parts calls visit with each value of the given kind within a value, inner ones first.
func parts(value reflect.Value, kind reflect.Kind, visit func(part reflect.Value)) {
	switch value.Kind() {
	case reflect.Struct:
		for i := range value.NumField() {
			parts(value.Field(i), kind, visit)
		}
	case reflect.Slice:
		for i := range value.Len() {
			parts(value.Index(i), kind, visit)
		}
	}
	if value.Kind() == kind {
		visit(value)
	}
}

// numbers calls visit with each number within a design.
func numbers(d *impl.Design, visit func(number reflect.Value)) {
	parts(reflect.ValueOf(d).Elem(), reflect.Int, visit)
}

func TestDesignsWithOneOtherNumber(t *testing.T) {
	for _, d := range []impl.Design{driverKinds(), impl.SampleDesign()} {
		checkDesign(t, "unchanged", d)
		if !impl.DesignOk(d) {
			t.Errorf("DesignOk is false for %v", d)
		}
		numbers(&d, func(number reflect.Value) {
			before := number.Int()
			for _, other := range append(extremes(), 6, 7, 8, 9) {
				number.SetInt(int64(other))
				checkDesign(t, "one number changed", d)
			}
			number.SetInt(before)
		})
	}
}

func TestDesignsWithOtherLengths(t *testing.T) {
	for _, d := range []impl.Design{driverKinds(), impl.SampleDesign()} {
		parts(reflect.ValueOf(&d).Elem(), reflect.Slice, func(list reflect.Value) {
			before := list.Interface()
			for _, length := range append(upTo(list.Len()), 31, 32) {
				// The elements are repeated for a greater length.
				other := reflect.MakeSlice(list.Type(), 0, length)
				for i := 0; i < length && reflect.ValueOf(before).Len() > 0; i++ {
					other = reflect.Append(other, reflect.ValueOf(before).Index(i%reflect.ValueOf(before).Len()))
				}
				list.Set(other)
				checkDesign(t, "one length changed", d)
			}
			for i := range reflect.ValueOf(before).Len() {
				whole := reflect.ValueOf(before)
				list.Set(reflect.AppendSlice(whole.Slice3(0, i, i), whole.Slice(i+1, whole.Len())))
				checkDesign(t, "one element removed", d)
				list.Set(reflect.AppendSlice(whole.Slice3(0, i, i), whole.Slice(max(i-1, 0), whole.Len())))
				checkDesign(t, "one element repeated", d)
			}
			list.Set(reflect.ValueOf(before))
		})
	}
}

func TestDriverCountOfEachDriver(t *testing.T) {
	want := [][]int{{1, 0, 1, 1, 0, 1}, {}, {0, 1, 1, 1, 1, 1, 1, 1, 0}}
	d := driverKinds()
	for k, counts := range want {
		for s, count := range counts {
			if got := impl.DriverCount(d, k, s); got != count {
				t.Errorf("DriverCount of signal %d of module %d = %d, want %d", s, k, got, count)
			}
		}
	}
	// Both outputs of an instance at one signal, an assignment and a memory on top of this.
	d.Modules[2].Insts[0].Ports = []int{4, 4, 4, 4}
	d.Modules[2].Assigns = append(d.Modules[2].Assigns, assign(4))
	d.Modules[2].Mems = []impl.Mem{{Addr: 5, Data: 5, Write: 5, Out: 4}}
	if four, five := impl.DriverCount(d, 2, 4), impl.DriverCount(d, 2, 5); four != 4 || five != 0 {
		t.Error("DriverCount =", four, five)
	}
}

func TestDriverCountDoesNotJudge(t *testing.T) {
	// Kinds, widths, initial values, parameters and expressions are not checked.
	d := driverKinds()
	d.Modules[2].Signals[3] = impl.Signal{Kind: 7, Width: -3, Init: 99}
	d.Modules[2].Signals[4].Kind = impl.SigReg
	d.Modules[2].Assigns[0].Ops = nil
	d.Modules[2].Assigns[1].Target = math.MaxInt64
	d.Modules[2].Insts[0].Param = -1
	d.Modules[2].Insts[2].Ports = []int{-1, 6, math.MinInt64, 99}
	d.Modules[0].Mems[0] = impl.Mem{Addr: -1, Data: -1, Write: -1, Out: -1}
	want := []int{0, 1, 0, 1, 1, 1, 1, 0, 0}
	for s, count := range want {
		if got := impl.DriverCount(d, 2, s); got != count {
			t.Errorf("DriverCount of signal %d = %d, want %d", s, got, count)
		}
	}
	if impl.DriverCount(d, 0, 3) != 0 || impl.DriverCount(d, 0, -1) != -1 || impl.DriverCount(d, 2, 9) != -1 {
		t.Error("DriverCount of module 0, or of signals that do not exist, is wrong")
	}
}

func TestDriverCountOfWhatDoesNotExist(t *testing.T) {
	d := driverKinds()
	for _, n := range extremes() {
		if (n < 0 || n > 2) && (impl.DriverCount(d, n, 0) != -1 || impl.ModuleOk(d, n)) {
			t.Errorf("there is no module %d", n)
		}
		if (n < 0 || n > 8) && impl.DriverCount(d, 2, n) != -1 {
			t.Errorf("there is no signal %d", n)
		}
		if impl.DriverCount(d, 1, n) != -1 || impl.DriverCount(impl.Design{}, n, 0) != -1 || impl.ModuleOk(impl.Design{}, n) {
			t.Errorf("there is neither a signal nor a module %d", n)
		}
	}
}

func TestEmptyDesigns(t *testing.T) {
	for _, d := range []impl.Design{{}, {Modules: []impl.Module{}}} {
		checkDesign(t, "no modules", d)
		if impl.DesignOk(d) {
			t.Error("a design without modules is accepted")
		}
	}
	// Modules without signals have nothing that could be wrong.
	for count := 1; count <= 6; count++ {
		d := impl.Design{Modules: make([]impl.Module, count)}
		checkDesign(t, "empty modules", d)
		if got := impl.DesignOk(d); got != (count <= 4) {
			t.Errorf("DesignOk = %v for %d empty modules", got, count)
		}
	}
	d := impl.Design{Modules: []impl.Module{{Signals: signalsOfKinds(impl.SigIn)}}}
	if !impl.DesignOk(d) || impl.DriverCount(d, 0, 0) != 0 {
		t.Error("a module with nothing but an input is not accepted")
	}
}

// fullModule is a valid module with the given numbers of signals, assignments, instances of module
// 0, which has one output, and memories.
func fullModule(signals, assigns, insts, mems int) impl.Module {
	var m impl.Module
	for range signals {
		m.Signals = append(m.Signals, impl.Signal{Kind: impl.SigWire, Width: 1})
	}
	for i := range assigns {
		m.Assigns = append(m.Assigns, assign(i))
	}
	for i := range insts {
		m.Insts = append(m.Insts, impl.Inst{Ports: []int{assigns + i}})
	}
	for i := range mems {
		m.Mems = append(m.Mems, impl.Mem{Out: assigns + insts + i})
	}
	for i := assigns + insts + mems; i < signals; i++ {
		m.Signals[i].Kind = impl.SigIn
	}
	return m
}

// source is a module with one output.
func source() impl.Module {
	return impl.Module{Signals: []impl.Signal{{Kind: impl.SigOut, Width: 1}}, Assigns: []impl.Assign{assign(0)}}
}

func TestModuleCounts(t *testing.T) {
	within := []impl.Module{fullModule(30, 30, 0, 0), fullModule(30, 25, 3, 2), fullModule(30, 0, 0, 0), fullModule(5, 0, 3, 2), fullModule(1, 0, 1, 0)}
	beyond := []impl.Module{fullModule(31, 30, 0, 0), fullModule(31, 0, 0, 0), fullModule(30, 0, 4, 0), fullModule(30, 0, 0, 3)}
	// Of the assignments one more than MaxAssigns needs one more signal, or drives one twice.
	twice := fullModule(30, 30, 0, 0)
	twice.Assigns = append(twice.Assigns, assign(29))
	beyond = append(beyond, twice, fullModule(32, 31, 1, 0))
	for i, m := range append(within, beyond...) {
		ok := i < len(within)
		for place := 1; place <= 3; place++ {
			d := impl.Design{Modules: []impl.Module{source(), source(), source(), source()}}
			d.Modules[place] = m
			checkDesign(t, "full module", d)
			if impl.DesignOk(d) != ok || impl.ModuleOk(d, 0) != ok || impl.ModuleOk(d, 3) != ok || impl.ModuleOk(d, place) != ok {
				t.Errorf("module %d of the list at place %d: DesignOk = %v", i, place, !ok)
			}
			if got := impl.DriverCount(d, 0, 0); ok && got != 1 || !ok && got != -1 {
				t.Errorf("module %d of the list at place %d: DriverCount = %d", i, place, got)
			}
		}
	}
}

func TestModuleCountOfModules(t *testing.T) {
	for count := 1; count <= 6; count++ {
		d := impl.Design{Modules: slices.Repeat([]impl.Module{source()}, count)}
		ok := count <= 4
		checkDesign(t, "many modules", d)
		for k := range count {
			if got := impl.DriverCount(d, k, 0); impl.ModuleOk(d, k) != ok || ok && got != 1 || !ok && got != -1 {
				t.Errorf("module %d of %d: DriverCount = %d", k, count, got)
			}
		}
		if impl.DesignOk(d) != ok {
			t.Errorf("DesignOk = %v for %d modules", !ok, count)
		}
	}
}

func TestModuleMaxOps(t *testing.T) {
	for place := range 2 {
		for _, ops := range append(longExpressions(15), longExpressions(17)...) {
			d := impl.Design{Modules: []impl.Module{source(), source()}}
			d.Modules[place].Assigns[0].Ops = ops
			ok := len(ops) <= 15
			checkDesign(t, "long expression", d)
			// The other module is judged alone, and the number of drivers does not depend on it.
			if impl.ModuleOk(d, place) != ok || !impl.ModuleOk(d, 1-place) || impl.DesignOk(d) != ok || impl.DriverCount(d, place, 0) != 1 {
				t.Errorf("an expression of %d operators in module %d", len(ops), place)
			}
		}
	}
}

// change is a change of driverKinds and the module that it makes invalid, -1 if there is none.
type change struct {
	what   string
	change func(d *impl.Design)
	bad    int
}

// checkChanges checks each change for itself.
func checkChanges(t *testing.T, changes []change) {
	t.Helper()
	for _, c := range changes {
		d := roomy(driverKinds())
		c.change(&d)
		checkDesign(t, c.what, d)
		for k := range d.Modules {
			if got := impl.ModuleOk(d, k); got != (k != c.bad) {
				t.Errorf("%s: ModuleOk for module %d = %v", c.what, k, got)
			}
		}
		if got := impl.DesignOk(d); got != (c.bad == -1) {
			t.Errorf("%s: DesignOk = %v", c.what, got)
		}
	}
}

func TestModuleOkSignals(t *testing.T) {
	set := func(module, signal int, s impl.Signal) func(d *impl.Design) {
		return func(d *impl.Design) { d.Modules[module].Signals[signal] = s }
	}
	checkChanges(t, []change{
		{"width 0", set(2, 3, impl.Signal{Kind: impl.SigReg}), -1},
		{"width 4", set(2, 1, impl.Signal{Kind: impl.SigOut, Width: 4}), -1},
		{"width 5", set(2, 1, impl.Signal{Kind: impl.SigOut, Width: 5}), 2},
		{"width -1", set(0, 2, impl.Signal{Kind: impl.SigOut, Width: -1}), 0},
		{"least width", set(2, 0, impl.Signal{Width: math.MinInt64}), 2},
		{"greatest width", set(2, 0, impl.Signal{Width: math.MaxInt64}), 2},
		{"register with Init 0", set(0, 0, impl.Signal{Kind: impl.SigReg, Width: 1}), -1},
		{"register with Init 15 at width 1", set(0, 0, impl.Signal{Kind: impl.SigReg, Width: 1, Init: 15}), -1},
		{"register with Init 16", set(0, 0, impl.Signal{Kind: impl.SigReg, Width: 4, Init: 16}), 0},
		{"register with Init -1", set(0, 0, impl.Signal{Kind: impl.SigReg, Width: 4, Init: -1}), 0},
		{"register with the least Init", set(2, 3, impl.Signal{Kind: impl.SigReg, Init: math.MinInt64}), 2},
		{"register with the greatest Init", set(2, 3, impl.Signal{Kind: impl.SigReg, Init: math.MaxInt64}), 2},
		{"input with Init 1", set(2, 0, impl.Signal{Width: 1, Init: 1}), 2},
		{"output with Init 15", set(2, 1, impl.Signal{Kind: impl.SigOut, Init: 15}), 2},
		{"wire with Init -1", set(2, 2, impl.Signal{Kind: impl.SigWire, Init: -1}), 2},
		{"kind 4", set(0, 3, impl.Signal{Kind: 4, Width: 1}), 0},
		{"kind -1", set(0, 3, impl.Signal{Kind: -1, Width: 1}), 0},
		{"least kind", set(2, 1, impl.Signal{Kind: math.MinInt64}), 2},
		{"greatest kind", set(2, 1, impl.Signal{Kind: math.MaxInt64}), 2},
	})
	for _, kind := range []int{-1, 4, math.MinInt64, math.MaxInt64} {
		d := impl.Design{Modules: []impl.Module{{Signals: signalsOfKinds(kind)}}}
		if impl.ModuleOk(d, 0) {
			t.Errorf("a signal of kind %d without a driver is accepted", kind)
		}
	}
}

func TestModuleOkAssigns(t *testing.T) {
	target := func(module, a, s int) func(d *impl.Design) {
		return func(d *impl.Design) { d.Modules[module].Assigns[a].Target = s }
	}
	ops := func(list ...impl.Op) func(d *impl.Design) {
		return func(d *impl.Design) { d.Modules[2].Assigns[2].Ops = list }
	}
	add := func(s int) func(d *impl.Design) {
		return func(d *impl.Design) { d.Modules[2].Assigns = append(d.Modules[2].Assigns, assign(s)) }
	}
	checkChanges(t, []change{
		{"other order", func(d *impl.Design) { slices.Reverse(d.Modules[2].Assigns) }, -1},
		{"target is an input", target(2, 0, 0), 2},
		{"an input assigned as well", add(0), 2},
		{"target -1", target(0, 0, -1), 0},
		{"target past the end", target(2, 0, 9), 2},
		{"target past the end as well", add(9), 2},
		{"least target as well", add(math.MinInt64), 2},
		{"greatest target as well", add(math.MaxInt64), 2},
		{"output assigned twice", add(1), 2},
		{"wire assigned twice", add(2), 2},
		{"register assigned twice", add(3), 2},
		{"output assigned and driven by an instance", add(4), 2},
		{"wire assigned and driven by an instance", add(5), 2},
		{"output without a driver", target(2, 0, 2), 2},
		{"wire without a driver", target(2, 1, 1), 2},
		{"register without a driver", target(2, 2, 1), 2},
		{"no assignments", func(d *impl.Design) { d.Modules[2].Assigns = nil }, 2},
		{"empty expression", ops(), 2},
		{"operand missing", ops(operator(impl.OpAnd), constant(1)), 2},
		{"operator left over", ops(constant(1), constant(1)), 2},
		{"last signal", ops(readSignal(8)), -1},
		{"signal past the end", ops(readSignal(9)), 2},
		{"last bit", ops(impl.Op{Kind: impl.OpBit, A: 8, B: 3}), -1},
		{"bit past the end", ops(impl.Op{Kind: impl.OpBit, A: 8, B: 4}), 2},
		{"bit of a signal past the end", ops(impl.Op{Kind: impl.OpBit, A: 9}), 2},
		{"constant 16", ops(constant(16)), 2},
		{"unused field", ops(impl.Op{Kind: impl.OpParam, B: 1}), 2},
		{"kind 13", ops(operator(13)), 2},
	})
}

func TestModuleOkInsts(t *testing.T) {
	inst := func(i impl.Inst) func(d *impl.Design) {
		return func(d *impl.Design) { d.Modules[2].Insts[0] = i }
	}
	ports := func(list ...int) func(d *impl.Design) { return inst(impl.Inst{Ports: list}) }
	second := func(i impl.Inst) func(d *impl.Design) {
		return func(d *impl.Design) { d.Modules[1].Insts = []impl.Inst{i} }
	}
	checkChanges(t, []change{
		{"Param 4", inst(impl.Inst{Param: 4, Ports: []int{8, 4, 3, 5}}), -1},
		{"Param 5", inst(impl.Inst{Param: 5, Ports: []int{8, 4, 3, 5}}), 2},
		{"Param -1", inst(impl.Inst{Param: -1, Ports: []int{8, 4, 3, 5}}), 2},
		{"least Param", inst(impl.Inst{Param: math.MinInt64, Ports: []int{8, 4, 3, 5}}), 2},
		{"greatest Param", inst(impl.Inst{Param: math.MaxInt64, Ports: []int{8, 4, 3, 5}}), 2},
		{"inputs from any kind", ports(0, 4, 1, 5), -1},
		{"inputs from the instance itself", ports(4, 4, 5, 5), -1},
		{"outputs exchanged", ports(8, 5, 3, 4), -1},
		{"output to a register", ports(8, 3, 3, 5), 2},
		{"output to an input", ports(8, 0, 3, 5), 2},
		{"both outputs to one signal", ports(8, 4, 3, 4), 2},
		{"too few ports", ports(8, 4, 3), 2},
		{"too many ports", ports(8, 4, 3, 5, 0), 2},
		{"no ports", ports(), 2},
		{"input from -1", ports(-1, 4, 3, 5), 2},
		{"input from a signal past the end", ports(8, 4, 9, 5), 2},
		{"input from the least number", ports(math.MinInt64, 4, 3, 5), 2},
		{"input from the greatest number", ports(8, 4, math.MaxInt64, 5), 2},
		{"output to -1", ports(8, -1, 3, 5), 2},
		{"output to a signal past the end", ports(8, 4, 3, 9), 2},
		{"ports for a module without ports", func(d *impl.Design) { d.Modules[2].Insts[1].Ports = []int{0} }, 2},
		{"the module itself", func(d *impl.Design) { d.Modules[2].Insts[1].Module = 2 }, 2},
		{"no such module", func(d *impl.Design) { d.Modules[2].Insts[1].Module = 3 }, 2},
		{"module -1", func(d *impl.Design) { d.Modules[2].Insts[1].Module = -1 }, 2},
		{"module 1 in itself", second(impl.Inst{Module: 1}), 1},
		{"a later module in module 1", second(impl.Inst{Module: 2, Ports: make([]int, 4)}), 1},
		{"the least module", second(impl.Inst{Module: math.MinInt64}), 1},
		{"the greatest module", second(impl.Inst{Module: math.MaxInt64}), 1},
		{"no instances", func(d *impl.Design) { d.Modules[2].Insts = nil }, 2},
	})
}

// TestModuleOkRegisterBehindInstance checks that an instance or a memory does not drive a register
// even if nothing else does.
func TestModuleOkRegisterBehindInstance(t *testing.T) {
	for kind, want := range []bool{false, true, true, false} {
		d := impl.Design{Modules: []impl.Module{source(), {
			Signals: signalsOfKinds(kind),
			Insts:   []impl.Inst{{Ports: []int{0}}},
		}}}
		checkDesign(t, "driven by an instance", d)
		if got := impl.ModuleOk(d, 1); got != want || impl.DriverCount(d, 1, 0) != 1 {
			t.Errorf("a signal of kind %d behind an instance: ModuleOk = %v", kind, got)
		}
		d.Modules[1].Insts = nil
		d.Modules[1].Mems = []impl.Mem{{}}
		checkDesign(t, "driven by a memory", d)
		if got := impl.ModuleOk(d, 1); got != want || impl.DriverCount(d, 1, 0) != 1 {
			t.Errorf("a signal of kind %d behind a memory: ModuleOk = %v", kind, got)
		}
		d.Modules[1].Mems = nil
		d.Modules[1].Assigns = []impl.Assign{assign(0)}
		checkDesign(t, "driven by an assignment", d)
		if got := impl.ModuleOk(d, 1); got != (kind != impl.SigIn) || impl.DriverCount(d, 1, 0) != 1 {
			t.Errorf("a signal of kind %d that is assigned: ModuleOk = %v", kind, got)
		}
	}
}

func TestModuleOkMems(t *testing.T) {
	mem := func(addr, data, write, out int) func(d *impl.Design) {
		return func(d *impl.Design) { d.Modules[0].Mems[0] = impl.Mem{Addr: addr, Data: data, Write: write, Out: out} }
	}
	second := func(out int) func(d *impl.Design) {
		return func(d *impl.Design) { d.Modules[0].Mems = append(d.Modules[0].Mems, impl.Mem{Out: out}) }
	}
	changes := []change{
		{"reads any kind", mem(0, 2, 5, 3), -1},
		{"reads its own output", mem(3, 3, 3, 3), -1},
		{"drives another wire's place", mem(1, 4, 3, 5), 0},
		{"drives a register", mem(1, 4, 3, 0), 0},
		{"drives an input", mem(1, 4, 3, 1), 0},
		{"drives the output in place of the assignment", func(d *impl.Design) {
			d.Modules[0].Mems[0].Out, d.Modules[0].Assigns[0].Target = 2, 3
		}, -1},
		{"second memory for the same signal", second(3), 0},
		{"second memory for an assigned output", second(2), 0},
		{"second memory for an assigned register", second(0), 0},
		{"second memory for an input", second(1), 0},
		{"no memories", func(d *impl.Design) { d.Modules[0].Mems = nil }, 0},
	}
	for _, bad := range []int{-1, 6, 30, math.MinInt64, math.MaxInt64} {
		changes = append(changes, change{"Addr", mem(bad, 4, 3, 3), 0}, change{"Data", mem(1, bad, 3, 3), 0}, change{"Write", mem(1, 4, bad, 3), 0}, change{"Out", mem(1, 4, 3, bad), 0}, change{"second Out", second(bad), 0})
	}
	checkChanges(t, changes)
}

// TestValidDesignsHaveOneDriver checks promise 4 for designs that result from changes of two
// numbers at a time.
func TestValidDesignsHaveOneDriver(t *testing.T) {
	d := driverKinds()
	var all []reflect.Value
	numbers(&d, func(number reflect.Value) { all = append(all, number) })
	valid := 0
	for i, a := range all {
		for _, b := range all[:i] {
			was := a.Int()
			a.SetInt(b.Int())
			b.SetInt(was)
			if impl.DesignOk(d) {
				valid++
				checkPromise(t, d)
			}
			checkDesign(t, "two numbers exchanged", d)
			b.SetInt(a.Int())
			a.SetInt(was)
		}
	}
	if valid < 100 {
		t.Error("only", valid, "valid designs")
	}
}

// checkPromise checks what promise 4 says about a valid design.
func checkPromise(t *testing.T, d impl.Design) {
	t.Helper()
	for k, m := range d.Modules {
		for s, signal := range m.Signals {
			want := 1
			if signal.Kind == impl.SigIn {
				want = 0
			}
			if got := impl.DriverCount(d, k, s); got != want {
				t.Errorf("signal %d of module %d has %d drivers in %v", s, k, got, d)
			}
		}
		for _, a := range m.Assigns {
			for end := range len(a.Ops) + 1 {
				if impl.OpsOk(a.Ops[:end], len(m.Signals)) != (end == len(a.Ops)) {
					t.Errorf("expression %v is no prefix code", a.Ops)
				}
			}
		}
	}
}

func TestDesignOkNeedsEachModule(t *testing.T) {
	for place := range 4 {
		d := impl.Design{Modules: []impl.Module{source(), source(), source(), source()}}
		if !impl.DesignOk(d) {
			t.Error("four valid modules are not accepted")
		}
		d.Modules[place].Assigns = nil
		if impl.DesignOk(d) {
			t.Errorf("module %d is not valid, but the design is accepted", place)
		}
	}
}

func TestSampleDesign(t *testing.T) {
	want := impl.Design{Modules: []impl.Module{
		{
			Signals: []impl.Signal{{Kind: 0, Width: 1}, {Kind: 1, Width: 0}, {Kind: 3, Width: 0}},
			Assigns: []impl.Assign{
				{Target: 2, Ops: []impl.Op{{Kind: 12}, {Kind: 2, A: 0}, {Kind: 8}, {Kind: 2, A: 2}, {Kind: 0, A: 1}, {Kind: 2, A: 2}}},
				{Target: 1, Ops: []impl.Op{{Kind: 2, A: 2}}},
			},
		},
		{
			Signals: []impl.Signal{{Kind: 0, Width: 1}, {Kind: 1, Width: 0}},
			Insts:   []impl.Inst{{Module: 0, Param: 0, Ports: []int{0, 1}}},
		},
	}}
	d := impl.SampleDesign()
	if !untouched(roomy(d), roomy(want)) {
		t.Errorf("SampleDesign() = %v, want %v", d, want)
	}
	if !impl.DesignOk(d) {
		t.Error("the sample design is not valid")
	}
	checkDesign(t, "sample design", d)
	checkPromise(t, d)
	if sharesMemory(d, impl.SampleDesign()) {
		t.Error("results of SampleDesign share memory")
	}
	numbers(&d, func(number reflect.Value) { number.SetInt(7) })
	if !untouched(roomy(impl.SampleDesign()), roomy(want)) {
		t.Error("a change of one result of SampleDesign shows in the next one")
	}
}

func TestDesignArgumentsUnchanged(t *testing.T) {
	broken := driverKinds()
	broken.Modules[2].Insts[0].Ports = []int{-1, 99}
	for _, original := range []impl.Design{{}, driverKinds(), impl.SampleDesign(), broken} {
		d, before := roomy(original), roomy(original)
		impl.DesignOk(d)
		for k := -1; k <= len(d.Modules); k++ {
			impl.ModuleOk(d, k)
			for s := -1; s <= 9; s++ {
				impl.DriverCount(d, k, s)
			}
		}
		for _, m := range d.Modules {
			ports := impl.PortsOf(m)
			if sharesMemory(ports, d) {
				t.Error("PortsOf shares memory with its argument")
			}
			clear(ports[:cap(ports)])
			for _, a := range m.Assigns {
				impl.OpsOk(a.Ops, len(m.Signals))
			}
		}
		if !untouched(d, before) {
			t.Errorf("%v was changed to %v", before, d)
		}
	}
}
