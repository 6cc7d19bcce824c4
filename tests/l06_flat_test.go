package tests

import (
	"cmp"
	"fmt"
	"math"
	"reflect"
	"slices"
	"strings"
	"testing"

	"loop.example/g03311/impl"
)

// read returns the design that a text describes.
func read(t *testing.T, text string) impl.Design {
	t.Helper()
	d, ok := described(text)
	if !ok {
		t.Fatalf("%q describes no design", text)
	}
	return d
}

// readModule returns the module with the lines of a text.
func readModule(t *testing.T, lines string) impl.Module {
	t.Helper()
	return read(t, "module\n"+lines+"\nend\n").Modules[0]
}

// alone returns the design that consists of a module.
func alone(m impl.Module) impl.Design { return impl.Design{Modules: []impl.Module{m}} }

// sameModule reports whether two modules are equal; nil and empty lists are.
func sameModule(a impl.Module, b impl.Module) bool { return untouched(roomy(a), roomy(b)) }

// portWidths is PortWidths for modules that do not have too many signals.
func portWidths(m impl.Module, kind int) []int {
	var widths []int
	for i := range m.Signals {
		if m.Signals[i].Kind == kind {
			widths = append(widths, m.Signals[i].Width)
		}
	}
	return widths
}

// evalOrder is EvalOrder by sets of what each assignment still waits for.
func evalOrder(m impl.Module) ([]int, bool) {
	if !designOk(alone(m)) {
		return nil, false
	}
	assignOf := map[int]int{}
	for i, a := range m.Assigns {
		if m.Signals[a.Target].Kind != 3 {
			assignOf[a.Target] = i
		}
	}
	waitsFor := map[int]map[int]bool{}
	for _, i := range assignOf {
		waitsFor[i] = map[int]bool{}
		for _, o := range m.Assigns[i].Ops {
			if before, is := assignOf[o.A]; is && (o.Kind == 2 || o.Kind == 3) {
				waitsFor[i][before] = true
			}
		}
	}
	var order []int
	for len(waitsFor) > 0 {
		var ready []int
		for i := range waitsFor {
			if len(waitsFor[i]) == 0 {
				ready = append(ready, i)
			}
		}
		if len(ready) == 0 {
			return nil, false
		}
		next := slices.Min(ready)
		order = append(order, next)
		delete(waitsFor, next)
		for _, set := range waitsFor {
			delete(set, next)
		}
	}
	return order, true
}

// flatOk is FlatOk by the function above.
func flatOk(m impl.Module) bool {
	if _, ok := evalOrder(m); !ok {
		return false
	}
	bits := [4]int{}
	for _, s := range m.Signals {
		if s.Width == 0 {
			return false
		}
		bits[s.Kind] += s.Width
	}
	for _, mem := range m.Mems {
		widths := []int{m.Signals[mem.Addr].Width, m.Signals[mem.Write].Width, m.Signals[mem.Data].Width}
		if !slices.Equal(widths, []int{2, 1, m.Signals[mem.Out].Width}) {
			return false
		}
		bits[3] += widths[2]
	}
	for _, a := range m.Assigns {
		for _, o := range a.Ops {
			if o.Kind == 1 {
				return false
			}
		}
	}
	return bits[0] <= 8 && bits[1] <= 8 && bits[3] <= 12
}

// piece is the top module or a copy of a module with a parameter, and the names of its signals in
// the whole design.
type piece struct {
	module impl.Module
	param  int
	names  []string
}

// pieces returns module k of a valid design, which is found at a path and has ports with the given
// names if it is a copy, and all copies within it.
func pieces(d impl.Design, k int, param int, path string, ports []string) []piece {
	whole := piece{module: d.Modules[k], param: param}
	next := 0
	for i, s := range whole.module.Signals {
		name := fmt.Sprintf("%s signal %d", path, i)
		if path != "top" && (s.Kind == 0 || s.Kind == 1) {
			name = ports[next]
			next++
		}
		whole.names = append(whole.names, name)
	}
	list := []piece{whole}
	for i, inst := range whole.module.Insts {
		var names []string
		for _, s := range inst.Ports {
			names = append(names, whole.names[s])
		}
		within := fmt.Sprintf("%s instance %d", path, i)
		list = append(list, pieces(d, inst.Module, cmp.Or(inst.Param, param), within, names)...)
	}
	return list
}

// flattened is Flatten by the names of the signals.
func flattened(d impl.Design, param int) (impl.Module, bool) {
	if !designOk(d) || !slices.Contains([]int{1, 2, 3, 4}, param) {
		return impl.Module{}, false
	}
	var flat impl.Module
	number := map[string]int{}
	for _, p := range pieces(d, len(d.Modules)-1, param, "top", nil) {
		for i, s := range p.module.Signals {
			s.Width = cmp.Or(s.Width, p.param)
			if _, is := number[p.names[i]]; !is {
				number[p.names[i]] = len(flat.Signals)
				flat.Signals = append(flat.Signals, s)
			}
			if flat.Signals[number[p.names[i]]].Width != s.Width {
				return impl.Module{}, false
			}
		}
		at := func(s int) int { return number[p.names[s]] }
		for _, a := range p.module.Assigns {
			var ops []impl.Op
			for _, o := range a.Ops {
				switch o.Kind {
				case 1:
					o = constant(p.param)
				case 2, 3:
					o.A = at(o.A)
				}
				ops = append(ops, o)
			}
			flat.Assigns = append(flat.Assigns, impl.Assign{Target: at(a.Target), Ops: ops})
		}
		for _, mem := range p.module.Mems {
			flat.Mems = append(flat.Mems, impl.Mem{Addr: at(mem.Addr), Data: at(mem.Data), Write: at(mem.Write), Out: at(mem.Out)})
		}
	}
	if !flatOk(flat) {
		return impl.Module{}, false
	}
	return flat, true
}

// checkModule checks all that Chapter 6 says about a module.
func checkModule(t *testing.T, what string, m impl.Module) {
	t.Helper()
	for kind := -1; kind <= 4; kind++ {
		want := portWidths(m, kind)
		if len(m.Signals) > 30 {
			want = nil
		}
		if got := impl.PortWidths(m, kind); !slices.Equal(got, want) {
			t.Errorf("%s: PortWidths for the kind %d = %v, want %v, of %v", what, kind, got, want, m)
		}
	}
	want, is := evalOrder(m)
	if order, ok := impl.EvalOrder(m); !slices.Equal(order, want) || ok != is {
		t.Errorf("%s: EvalOrder = %v, %v, want %v, %v, of %v", what, order, ok, want, is, m)
	}
	if got := impl.FlatOk(m); got != flatOk(m) {
		t.Errorf("%s: FlatOk = %v, of %v", what, got, m)
	}
}

// checkFlat checks all that Chapter 6 says about a design, and reports for how many parameters it
// can be flattened.
func checkFlat(t *testing.T, what string, d impl.Design) int {
	t.Helper()
	for _, m := range d.Modules {
		checkModule(t, what, m)
	}
	for k := -1; k <= len(d.Modules); k++ {
		var want impl.Design
		is := designOk(d) && k >= 0 && k < len(d.Modules)
		if is {
			want.Modules = d.Modules[:k+1]
		}
		if part, ok := impl.InstanceOf(d, k); !sameDesign(part, want) || ok != is {
			t.Errorf("%s: InstanceOf for module %d = %v, %v, of %v", what, k, part, ok, d)
		}
	}
	count := 0
	for param := 0; param <= 5; param++ {
		want, is := flattened(d, param)
		flat, ok := impl.Flatten(d, param)
		if !sameModule(flat, want) || ok != is {
			t.Errorf("%s: Flatten with the parameter %d = %v, %v, want %v, %v, of %v", what, param, flat, ok, want, is, d)
		}
		if ok {
			checkModule(t, what, flat)
			checkFlatStays(t, what, flat)
			count++
		}
	}
	return count
}

// checkFlatStays checks that a flat module is flattened to itself, also behind other modules.
func checkFlatStays(t *testing.T, what string, flat impl.Module) {
	t.Helper()
	for param := 1; param <= 4; param++ {
		for _, d := range []impl.Design{alone(flat), {Modules: []impl.Module{source(), flat, flat}}} {
			if again, ok := impl.Flatten(d, param); !sameModule(again, flat) || !ok {
				t.Errorf("%s: Flatten with the parameter %d = %v, %v, want %v", what, param, again, ok, flat)
			}
		}
	}
	if !impl.FlatOk(flat) {
		t.Errorf("%s: FlatOk is false for %v", what, flat)
	}
}

// nestedText is a design with copies of its first module in its top module and, with two other
// parameters, within a copy of its third one.
const nestedText = `module
reg W 5
in W
wire W
out W
in 1
set s3 ^ s2 s0
set s0 ? s4 + s0 1 W
set s2 & W s1
end
module
in 2
wire W
in W
out W
wire 1
set s1 - W s2
set s4 s2.0
mem s0 s1 s4 s3
end
module
out W
wire 1
in W
wire W
in 1
reg 1 1
set s5 s1
set s0 | s3 s1
use m0 W s2 s3 s4
use m0 1 s5 s1 s4
end
module
in W
in 1
out W
out W
in 2
wire W
wire 2
set s2 ^ s5 s6.1
use m2 W s5 s0 s1
use m1 W s4 s5 s3
use m0 2 s4 s6 s1
end
`

// nestedFlatText is this design, flattened with the parameter 3.
const nestedFlatText = `module
in 3
in 1
out 3
out 3
in 2
wire 3
wire 2
wire 1
wire 3
reg 1 1
reg 3 5
wire 3
reg 1 5
wire 1
wire 3
wire 1
reg 2 5
wire 2
set s2 ^ s5 s6.1
set s9 s7
set s5 | s8 s7
set s8 ^ s11 s10
set s10 ? s1 + s10 1 3
set s11 & 3 s0
set s7 ^ s13 s12
set s12 ? s1 + s12 1 1
set s13 & 1 s9
set s14 - 3 s5
set s15 s5.0
set s6 ^ s17 s16
set s16 ? s1 + s16 1 2
set s17 & 2 s4
mem s4 s14 s15 s3
end
`

// memoriesText is a design with a memory in its top module and one in a copy, of which another copy
// drives the address.
const memoriesText = `module
out 2
out 1
set s0 2
set s1 1
end
module
in W
out W
wire 2
wire 1
use m0 W s2 s3
mem s2 s0 s3 s1
end
module
in 2
in W
out W
wire W
in 1
wire W
set s2 ? s5 s3 W
use m1 W s3 s5
mem s0 s1 s4 s3
end
`

// memoriesFlatText is this design, flattened with the parameter 2.
const memoriesFlatText = `module
in 2
in 2
out 2
wire 2
in 1
wire 2
wire 2
wire 1
set s2 ? s5 s3 2
set s6 2
set s7 1
mem s0 s1 s4 s3
mem s6 s3 s7 s5
end
`

// chainText is a design in which the 0 of an inner instance stands for the parameter of an outer
// one.
const chainText = "module\nout W\nset s0 W\nend\nmodule\nout W\nuse m0 W s0\nend\nmodule\nout 2\nout 3\nout W\n" +
	"set s2 W\nuse m1 2 s0\nuse m0 3 s1\nend\n"

func TestFlatConstants(t *testing.T) {
	limits := []int{impl.MaxInBits, impl.MaxOutBits, impl.MaxStateBits}
	if want := []int{8, 8, 12}; !slices.Equal(limits, want) {
		t.Error("limits", limits, "want", want)
	}
}

func TestPortWidths(t *testing.T) {
	for length := range 5 {
		for _, kinds := range sequences([]int{-1, 0, 1, 2, 3, 4}, length) {
			signals := signalsOfKinds(kinds...)
			for i := range signals {
				// Widths are different, and in no order.
				signals[i].Width = 7*i%5 - 1
			}
			checkModule(t, "kinds in all orders", impl.Module{Signals: signals})
		}
	}
	m := readModule(t, "in 3\nout W\nin 1\nreg 2 3\nwire 4\nin W\nout 4\nset s1 1\nset s3 1\nset s4 1\nset s6 1")
	for kind, want := range [][]int{{3, 1, 0}, {0, 4}, {4}, {2}} {
		if got := impl.PortWidths(m, kind); !slices.Equal(got, want) {
			t.Errorf("PortWidths for the kind %d = %v, want %v", kind, got, want)
		}
	}
}

func TestPortWidthsOfAnyKindAndWidth(t *testing.T) {
	var m impl.Module
	for i, n := range extremes() {
		m.Signals = append(m.Signals, impl.Signal{Kind: n, Width: extremes()[len(extremes())-1-i], Init: n})
	}
	for i, kind := range extremes() {
		if got, want := impl.PortWidths(m, kind), []int{m.Signals[i].Width}; !slices.Equal(got, want) {
			t.Errorf("PortWidths for the kind %d = %v, want %v", kind, got, want)
		}
		if got := impl.PortWidths(impl.Module{}, kind); len(got) != 0 {
			t.Errorf("PortWidths of no signals = %v", got)
		}
		others := impl.Module{Signals: slices.Concat(m.Signals[:i], m.Signals[i+1:])}
		if got := impl.PortWidths(others, kind); len(got) != 0 {
			t.Errorf("PortWidths for the kind %d without a signal = %v", kind, got)
		}
	}
}

func TestPortWidthsMaxSignals(t *testing.T) {
	for count := 28; count <= 33; count++ {
		for kind := range 4 {
			signals := slices.Repeat([]impl.Signal{{Kind: kind, Width: 3}}, count)
			got := impl.PortWidths(impl.Module{Signals: signals}, kind)
			if count <= 30 && !slices.Equal(got, slices.Repeat([]int{3}, count)) || count > 30 && got != nil {
				t.Errorf("PortWidths of %d signals = %v", count, got)
			}
			if got := impl.PortWidths(impl.Module{Signals: signals}, kind+1); len(got) != 0 {
				t.Errorf("PortWidths for another kind = %v", got)
			}
		}
	}
	// The other counts do not matter.
	m := impl.Module{
		Signals: []impl.Signal{{Width: 2}}, Assigns: make([]impl.Assign, 31), Insts: make([]impl.Inst, 4), Mems: make([]impl.Mem, 3),
	}
	if got := impl.PortWidths(m, impl.SigIn); !slices.Equal(got, []int{2}) {
		t.Error("PortWidths =", got)
	}
}

// checkOrder checks EvalOrder for a module with the given lines; there is no order if want is nil.
func checkOrder(t *testing.T, what string, lines string, want []int) {
	t.Helper()
	m := readModule(t, lines)
	order, ok := impl.EvalOrder(m)
	if !slices.Equal(order, want) || ok != (want != nil) {
		t.Errorf("%s: EvalOrder = %v, %v, want %v", what, order, ok, want)
	}
	checkFlat(t, what, alone(m))
}

func TestEvalOrder(t *testing.T) {
	wires := func(count int, sets ...string) string {
		return strings.Repeat("wire 2\n", count) + "reg 2 1\nin 2\nset " + strings.Join(sets, "\nset ")
	}
	checkOrder(t, "in order", wires(3, "s0 s4", "s1 s0", "s2 s1", "s3 s2"), []int{0, 1, 2})
	checkOrder(t, "in reverse order", wires(3, "s2 s1", "s1 s0", "s0 s4", "s3 s2"), []int{2, 1, 0})
	checkOrder(t, "only the register read", wires(3, "s2 s3", "s1 s3", "s0 s3", "s3 s3"), []int{0, 1, 2})
	checkOrder(t, "the first one again after each step", wires(4, "s0 s2", "s1 1", "s2 1", "s3 1", "s4 1"), []int{1, 2, 0, 3})
	checkOrder(t, "the first one again after each step", wires(4, "s3 s0", "s2 s1", "s1 s0", "s0 s5", "s4 s3"), []int{3, 0, 2, 1})
	checkOrder(t, "registers first", wires(2, "s2 s0", "s1 s0", "s0 s3"), []int{2, 1})
	checkOrder(t, "a register in the middle", wires(2, "s1 s0", "s2 s0", "s0 s3"), []int{2, 0})
	checkOrder(t, "its own target", wires(1, "s0 s0", "s1 s0"), nil)
	checkOrder(t, "its own target behind another one", wires(2, "s0 1", "s1 & s0 s1", "s2 1"), nil)
	checkOrder(t, "its own target where it does not matter", wires(1, "s0 ? 0 s0 1", "s1 1"), nil)
	checkOrder(t, "a bit of its own target", wires(1, "s0 s0.1", "s1 s0"), nil)
	checkOrder(t, "a circle of two", wires(2, "s0 s1", "s1 s0", "s2 1"), nil)
	checkOrder(t, "a circle of three", wires(3, "s0 s1", "s1 s2", "s2 s0.0", "s3 1"), nil)
	checkOrder(t, "a circle behind what can be ordered", wires(4, "s0 1", "s1 + s0 s2", "s2 s1", "s3 2", "s4 1"), nil)
	checkOrder(t, "a circle through a register", wires(2, "s0 s1", "s1 s2", "s2 s0"), []int{1, 0})
	checkOrder(t, "a register and itself", wires(1, "s1 s1", "s0 s1"), []int{1})
	checkOrder(t, "a bit of a register", wires(1, "s0 s1.1", "s1 s1.0"), []int{0})
	checkOrder(t, "a signal twice", wires(2, "s0 & s1 s1", "s1 ^ s3 s3", "s2 1"), []int{1, 0})
	checkOrder(t, "a bit of a signal", wires(2, "s0 s1.1", "s1 s3.1", "s2 1"), []int{1, 0})
	checkOrder(t, "read last in the expression", wires(2, "s0 ? s3 ~ s2 s1", "s1 1", "s2 1"), []int{1, 0})
	checkOrder(t, "constants and bits that are numbers of targets", wires(2, "s0 + 1 s3.1", "s1 ~ 1", "s2 1"), []int{0, 1})
	checkOrder(t, "a constant that is the number of its own target", wires(1, "s0 0", "s1 1"), []int{0})
}

func TestEvalOrderWithoutWires(t *testing.T) {
	for what, lines := range map[string]string{"no assignments": "in 1", "only registers": "reg 1 0\nreg 1 1\nset s1 s0\nset s0 s1", "only a memory": "wire 1\nmem s0 s0 s0 s0"} {
		m := readModule(t, lines)
		if order, ok := impl.EvalOrder(m); len(order) != 0 || !ok {
			t.Errorf("%s: EvalOrder = %v, %v", what, order, ok)
		}
		checkFlat(t, what, alone(m))
	}
	if order, ok := impl.EvalOrder(impl.Module{}); len(order) != 0 || !ok {
		t.Errorf("no signals: EvalOrder = %v, %v", order, ok)
	}
}

func TestEvalOrderWithMemories(t *testing.T) {
	checkOrder(t, "reads a memory", "wire 2\nout 2\nin 2\nset s1 s0\nmem s2 s2 s2 s0", []int{0})
	checkOrder(t, "a circle through a memory", "wire 2\nwire 2\nwire 1\nset s2 s1.0\nset s1 s0\nmem s1 s1 s2 s0", []int{1, 0})
	checkOrder(t, "a circle beside a memory", "wire 2\nwire 2\nwire 2\nset s1 s2\nset s2 s1\nmem s1 s1 s2 s0", nil)
}

func TestEvalOrderMaxAssigns(t *testing.T) {
	var m impl.Module
	var backwards []int
	for i := range 30 {
		m.Signals = append(m.Signals, impl.Signal{Kind: impl.SigWire, Width: 4})
		m.Assigns = append(m.Assigns, impl.Assign{Target: i, Ops: []impl.Op{readSignal(i + 1)}})
		backwards = append(backwards, 29-i)
	}
	m.Assigns[29].Ops = longExpressions(15)[0]
	if order, ok := impl.EvalOrder(m); !slices.Equal(order, backwards) || !ok {
		t.Errorf("EvalOrder of a long chain = %v, %v", order, ok)
	}
	checkFlat(t, "a long chain", alone(m))
	m.Assigns[29].Ops = []impl.Op{readSignal(0)}
	if order, ok := impl.EvalOrder(m); order != nil || ok {
		t.Errorf("EvalOrder of a long circle = %v, %v", order, ok)
	}
}

// TestEvalOrderOfAllSmallModules compares EvalOrder for all modules with three signals, each of
// which reads some of them, and all orders of the assignments.
func TestEvalOrderOfAllSmallModules(t *testing.T) {
	for _, kinds := range sequences([]int{impl.SigOut, impl.SigWire, impl.SigReg}, 3) {
		for reads := range 512 {
			var assigns []impl.Assign
			for s := range 3 {
				ops := []impl.Op{constant(0)}
				for other := range 3 {
					if reads>>(3*s+other)&1 == 1 {
						// Every other one is read by its bit.
						ops = append([]impl.Op{operator(impl.OpXor), {Kind: impl.OpSignal + other%2, A: other}}, ops...)
					}
				}
				assigns = append(assigns, impl.Assign{Target: s, Ops: ops})
			}
			for _, places := range [][]int{{0, 1, 2}, {0, 2, 1}, {1, 0, 2}, {1, 2, 0}, {2, 0, 1}, {2, 1, 0}} {
				m := impl.Module{Signals: signalsOfKinds(kinds...)}
				for _, place := range places {
					m.Assigns = append(m.Assigns, assigns[place])
				}
				checkModule(t, "a small module", m)
			}
		}
	}
}

// invalidModules returns modules that have no order: they have instances, or are not valid alone.
// Most of them differ from a given flat module in one point.
func invalidModules(flat impl.Module) map[string]impl.Module {
	set := func(change func(m *impl.Module)) impl.Module {
		m := roomy(flat)
		change(&m)
		return m
	}
	return map[string]impl.Module{
		"an instance":                           impl.SampleDesign().Modules[1],
		"an instance of an empty module":        set(func(m *impl.Module) { m.Insts = make([]impl.Inst, 1) }),
		"an instance of a module below 0":       set(func(m *impl.Module) { m.Insts = []impl.Inst{{Module: -1}} }),
		"an instance of the greatest module":    set(func(m *impl.Module) { m.Insts = []impl.Inst{{Module: math.MaxInt64}} }),
		"many instances":                        set(func(m *impl.Module) { m.Insts = make([]impl.Inst, 9) }),
		"a signal that is not driven":           set(func(m *impl.Module) { m.Assigns = m.Assigns[1:] }),
		"a signal that is driven twice":         set(func(m *impl.Module) { m.Assigns = append(m.Assigns, assign(3)) }),
		"an input that is driven":               set(func(m *impl.Module) { m.Assigns = append(m.Assigns, assign(5)) }),
		"a target that does not exist":          set(func(m *impl.Module) { m.Assigns = append(m.Assigns, assign(6)) }),
		"a target below 0":                      set(func(m *impl.Module) { m.Assigns = append(m.Assigns, assign(math.MinInt64)) }),
		"an empty expression":                   set(func(m *impl.Module) { m.Assigns[0].Ops = nil }),
		"a signal read that does not exist":     set(func(m *impl.Module) { m.Assigns[0].Ops = []impl.Op{readSignal(6)} }),
		"a signal read below 0":                 set(func(m *impl.Module) { m.Assigns[0].Ops = []impl.Op{readSignal(math.MinInt64)} }),
		"a signal read past the end":            set(func(m *impl.Module) { m.Assigns[0].Ops = []impl.Op{readSignal(math.MaxInt64)} }),
		"an unknown operator":                   set(func(m *impl.Module) { m.Assigns[0].Ops = []impl.Op{operator(13)} }),
		"an unknown kind":                       set(func(m *impl.Module) { m.Signals[0].Kind = 4 }),
		"a kind below 0":                        set(func(m *impl.Module) { m.Signals[0].Kind = math.MinInt64 }),
		"a width above the limit":               set(func(m *impl.Module) { m.Signals[0].Width = 5 }),
		"a width below 0":                       set(func(m *impl.Module) { m.Signals[0].Width = -1 }),
		"the least width":                       set(func(m *impl.Module) { m.Signals[0].Width = math.MinInt64 }),
		"the greatest width":                    set(func(m *impl.Module) { m.Signals[0].Width = math.MaxInt64 }),
		"a wire with an initial value":          set(func(m *impl.Module) { m.Signals[0].Init = 1 }),
		"a memory that reads no signal":         set(func(m *impl.Module) { m.Mems[0].Addr = 6 }),
		"a memory that drives no signal":        set(func(m *impl.Module) { m.Mems[0].Out = -1 }),
		"a memory that drives what is assigned": set(func(m *impl.Module) { m.Mems[0].Out = 0 }),
		"too many signals":                      fullModule(31, 30, 0, 0),
		"too many assignments":                  fullModule(31, 31, 0, 0),
		"too many memories":                     fullModule(5, 0, 0, 3),
	}
}

func TestModulesThatAreNotValid(t *testing.T) {
	flat := readModule(t, "wire 2\nwire 3\nwire 1\nwire 4\nwire 3\nin 2\nset s0 1\nset s1 1\nset s2 1\nset s3 1\nmem s0 s1 s2 s4")
	checkFlatStays(t, "a flat module", flat)
	for what, m := range invalidModules(flat) {
		if order, ok := impl.EvalOrder(m); order != nil || ok {
			t.Errorf("%s: EvalOrder = %v, %v", what, order, ok)
		}
		if impl.FlatOk(m) {
			t.Errorf("%s: FlatOk is true", what)
		}
		checkModule(t, what, m)
		for _, d := range []impl.Design{alone(m), {Modules: []impl.Module{m, source()}}, {Modules: []impl.Module{source(), m}}} {
			checkFlat(t, what, d)
		}
		for param := range 6 {
			if flat, ok := impl.Flatten(alone(m), param); !sameModule(flat, impl.Module{}) || ok {
				t.Errorf("%s: Flatten with the parameter %d = %v, %v", what, param, flat, ok)
			}
		}
		if part, ok := impl.InstanceOf(alone(m), 0); part.Modules != nil || ok {
			t.Errorf("%s: InstanceOf = %v, %v", what, part, ok)
		}
	}
}

// flatText has the lines of a flat module with all kinds of parts.
const flatText = "in 2\nin 3\nin 1\nout 3\nwire 3\nreg 4 9\nwire 1\nset s5 + s5 s4\nset s3 ^ s4 s6\nset s6 = s1 3\nmem s0 s1 s2 s4"

// otherFlatText returns flatText with one part replaced.
func otherFlatText(t *testing.T, part string, other string) string {
	t.Helper()
	if strings.Count(flatText, part) != 1 {
		t.Fatalf("%q is not a part of the text", part)
	}
	return strings.Replace(flatText, part, other, 1)
}

// checkFlatOk checks FlatOk for a module with the given lines, and what it is flattened to.
func checkFlatOk(t *testing.T, what string, lines string, want bool) {
	t.Helper()
	m := readModule(t, lines)
	if got := impl.FlatOk(m); got != want {
		t.Errorf("%s: FlatOk = %v", what, got)
	}
	checkFlat(t, what, alone(m))
	if want {
		checkFlatStays(t, what, m)
	}
}

func TestFlatOk(t *testing.T) {
	checkFlatOk(t, "all kinds of parts", flatText, true)
	checkFlatOk(t, "no signals", "", true)
	checkFlatOk(t, "an input", "in 4", true)
	checkFlatOk(t, "an input of width 0", "in W", false)
	for _, wider := range []string{"in 3", "out 3", "wire 1", "reg 4"} {
		other := strings.Fields(wider)[0] + " W"
		checkFlatOk(t, "width 0 in place of "+wider, otherFlatText(t, wider, other), false)
	}
	checkFlatOk(t, "width 0 behind all other signals", otherFlatText(t, "wire 1\n", "wire 1\nin W\n"), false)
	checkFlatOk(t, "width 0 before all other signals", "out W\nin 1\nset s0 s1", false)
	checkFlatOk(t, "a wire that reads itself", otherFlatText(t, "= s1 3", "= s1 s6"), false)
	checkFlatOk(t, "two signals that read each other", otherFlatText(t, "= s1 3", "= s1 s3"), false)
}

func TestFlatOkOpParam(t *testing.T) {
	expressions := []string{"W", "+ s1 W", "+ W s1", "? s1 W s1", "~ ~ W", "& 1 & 2 & 3 & 4 & 5 & 6 & 7 W", "& W & 2 & 3 & 4 & 5 & 6 & 7 8"}
	for _, before := range []string{"+ s5 s4", "^ s4 s6", "= s1 3"} {
		for _, other := range expressions {
			lines := otherFlatText(t, before, other)
			checkFlatOk(t, other+" in place of "+before, lines, false)
			checkFlatOk(t, other+" in place of "+before+" without the parameter", strings.Replace(lines, "W", "4", 1), true)
		}
	}
}

// TestFlatOkMemories checks memories whose signals have all widths.
func TestFlatOkMemories(t *testing.T) {
	for _, widths := range sequences([]int{1, 2, 3, 4}, 4) {
		addr, data, write, out := widths[0], widths[1], widths[2], widths[3]
		ok := addr == 2 && write == 1 && data == out
		lines := fmt.Sprintf("wire %d\nwire %d\nwire %d\nwire %d\nset s0 1\nset s1 1\nset s2 1\nmem s0 s1 s2 s3", addr, data, write, out)
		checkFlatOk(t, fmt.Sprint("a memory with the widths ", widths), lines, ok)
		// The other memory is valid, before or behind this one.
		others := "\nwire 2\nwire 1\nout 2\nset s4 1\nset s5 2"
		two := strings.Replace(lines, "\nset", others+"\nset", 1)
		checkFlatOk(t, fmt.Sprint("the first memory with the widths ", widths), two+"\nmem s4 s4 s5 s6", ok)
		checkFlatOk(t, fmt.Sprint("the second memory with the widths ", widths), strings.Replace(two, "\nmem", "\nmem s4 s4 s5 s6\nmem", 1), ok)
	}
}

// ofWidths returns a line for a signal of each width.
func ofWidths(kind string, widths ...int) string {
	lines := ""
	for _, width := range widths {
		lines += fmt.Sprintf("%s %d\n", kind, width)
	}
	return lines
}

func TestFlatOkSums(t *testing.T) {
	one, two := slices.Repeat([]int{1}, 30), []int{2, 2, 2, 2, 2, 2}
	for _, widths := range [][]int{{4, 4}, one[:8], {3, 2, 3}, {1, 4, 2, 1}} {
		checkFlatOk(t, fmt.Sprint("inputs of the widths ", widths), ofWidths("in", widths...), true)
		checkFlatOk(t, fmt.Sprint("outputs of the widths ", widths), ofWidths("out", widths...)+driven(len(widths)), true)
		more := append(slices.Clone(widths), 1)
		checkFlatOk(t, fmt.Sprint("inputs of the widths ", more), ofWidths("in", more...), false)
		checkFlatOk(t, fmt.Sprint("outputs of the widths ", more), ofWidths("out", more...)+driven(len(more)), false)
		first := append([]int{1}, widths...)
		checkFlatOk(t, fmt.Sprint("inputs of the widths ", first), ofWidths("in", first...), false)
		checkFlatOk(t, fmt.Sprint("outputs of the widths ", first), ofWidths("out", first...)+driven(len(first)), false)
	}
	registers := func(widths ...int) string {
		return strings.ReplaceAll(ofWidths("reg", widths...), "\n", " 1\n") + driven(len(widths))
	}
	for _, widths := range [][]int{{4, 4, 4}, one[:12], two, {3, 3, 4, 1, 1}} {
		checkFlatOk(t, fmt.Sprint("registers of the widths ", widths), registers(widths...), true)
		more := append(slices.Clone(widths), 1)
		checkFlatOk(t, fmt.Sprint("registers of the widths ", more), registers(more...), false)
	}
	wires := slices.Repeat([]int{4}, 30)
	checkFlatOk(t, "wires of any sum", ofWidths("wire", wires...)+driven(30), true)
	checkFlatOk(t, "exactly the limits", "in 4\nin 4\nout 4\nout 4\nreg 4 0\nreg 4 0\nreg 4 0\nset s2 s0\nset s3 s1\nset s4 s5\nset s5 s6\nset s6 s4", true)
}

// driven returns an assignment for each of the first signals.
func driven(count int) string {
	lines := ""
	for s := range count {
		lines += fmt.Sprintf("set s%d 1\n", s)
	}
	return lines
}

// TestFlatOkStateOfMemories checks that the Out signals of memories count as state, also if they are
// outputs.
func TestFlatOkStateOfMemories(t *testing.T) {
	for _, kind := range []string{"wire", "out"} {
		for a := 1; a <= 4; a++ {
			for b := 1; b <= 4; b++ {
				for c := 1; c <= 4; c++ {
					for d := 1; d <= 4; d++ {
						lines := fmt.Sprintf("reg %d 0\nreg %d 0\n", a, b) + ofWidths(kind, c, d) + ofWidths("wire", c, d, 2, 1)
						lines += "set s0 1\nset s1 1\nset s4 1\nset s5 1\nset s6 1\nset s7 1\nmem s6 s4 s7 s2\nmem s6 s5 s7 s3"
						checkFlatOk(t, fmt.Sprintf("registers of %d and %d bits, memories of %d and %d", a, b, c, d), lines, a+b+c+d <= 12)
					}
				}
			}
		}
	}
	lines := "in 2\nin 1\nout 4\nout 4\nout 1\nset s4 1\nmem s0 s2 s1 s2\nmem s0 s3 s1 s3"
	checkFlatOk(t, "memories with too many outputs", lines, false)
	checkFlatOk(t, "memories with as many outputs as possible", strings.Replace(lines, "out 1\nset s4 1\n", "", 1), true)
}

// checkFlatText checks what a design with the given text is flattened to.
func checkFlatText(t *testing.T, text string, param int, want string) {
	t.Helper()
	d := read(t, text)
	flat, ok := impl.Flatten(d, param)
	if !ok || !sameModule(flat, read(t, want).Modules[0]) {
		t.Errorf("Flatten of %q with the parameter %d = %q, %v, want %q", text, param, textOf(alone(flat)), ok, want)
	}
	checkFlat(t, "a design", d)
}

func TestFlatten(t *testing.T) {
	checkFlatText(t, nestedText, 3, nestedFlatText)
	checkFlatText(t, memoriesText, 2, memoriesFlatText)
	for param, width := range []string{1: "1", 2: "2", 3: "3", 4: "4"} {
		if width == "" {
			continue
		}
		checkFlatText(t, sampleText, param, "module\nin 1\nout "+width+"\nreg "+width+" 0\nset s2 ? s0 + s2 1 s2\nset s1 s2\nend\n")
		if param <= 3 {
			checkFlatText(t, chainText, param, "module\nout 2\nout 3\nout "+width+"\nset s2 "+width+"\nset s0 2\nset s1 3\nend\n")
		}
		checkFlatText(t, "module\nin W\nout W\nreg W 15\nset s1 - W s2\nset s2 W\nend\n", param,
			"module\nin "+width+"\nout "+width+"\nreg "+width+" 15\nset s1 - "+width+" s2\nset s2 "+width+"\nend\n")
		checkFlatText(t, "module\nend\n", param, "module\nend\n")
		checkFlatText(t, "module\nin 1\nend\nmodule\nend\n", param, "module\nend\n")
	}
}

// designs returns valid designs with instances, memories and parameters.
func designs(t *testing.T) []impl.Design {
	t.Helper()
	return []impl.Design{read(t, nestedText), read(t, memoriesText), read(t, chainText), impl.SampleDesign(), alone(readModule(t, flatText))}
}

func TestFlattenParameters(t *testing.T) {
	for _, d := range designs(t) {
		for _, param := range extremes() {
			want, is := flattened(d, param)
			if flat, ok := impl.Flatten(d, param); !sameModule(flat, want) || ok != is || ok && (param < 1 || param > 4) {
				t.Errorf("Flatten with the parameter %d = %v, %v", param, flat, ok)
			}
		}
	}
	for i, want := range []int{4, 4, 3, 4, 4} {
		if got := checkFlat(t, "a design", designs(t)[i]); got != want {
			t.Errorf("design %d can be flattened with %d parameters, not with %d", i, got, want)
		}
	}
}

// checkParameters checks with which parameters a design with the given text can be flattened.
func checkParameters(t *testing.T, what string, text string, want ...int) {
	t.Helper()
	d := read(t, text)
	var params []int
	for param := -1; param <= 6; param++ {
		if flat, ok := impl.Flatten(d, param); ok {
			params = append(params, param)
		} else if !sameModule(flat, impl.Module{}) {
			t.Errorf("%s: Flatten with the parameter %d = %v, false", what, param, flat)
		}
	}
	if !slices.Equal(params, want) {
		t.Errorf("%s: Flatten accepts the parameters %v, want %v", what, params, want)
	}
	checkFlat(t, what, d)
}

func TestFlattenWidthsOfPorts(t *testing.T) {
	const fixed = "module\nin 3\nout 2\nset s1 s0\nend\n"
	const same = "module\nin W\nout W\nset s1 s0\nend\n"
	checkParameters(t, "equal widths", fixed+"module\nin 3\nout 2\nuse m0 W s0 s1\nend\n", 1, 2, 3, 4)
	checkParameters(t, "another input", fixed+"module\nin 2\nout 2\nuse m0 W s0 s1\nend\n")
	checkParameters(t, "another output", fixed+"module\nin 3\nout 3\nuse m0 W s0 s1\nend\n")
	checkParameters(t, "inputs that fit for one parameter", fixed+"module\nin W\nout 2\nuse m0 W s0 s1\nend\n", 3)
	checkParameters(t, "outputs that fit for one parameter", fixed+"module\nin 3\nout W\nuse m0 W s0 s1\nend\n", 2)
	checkParameters(t, "both for different parameters", fixed+"module\nin W\nout W\nuse m0 W s0 s1\nend\n")
	checkParameters(t, "the parameter inside and outside", same+"module\nin W\nout W\nuse m0 W s0 s1\nend\n", 1, 2, 3, 4)
	checkParameters(t, "the parameter inside", same+"module\nin 4\nout 4\nuse m0 W s0 s1\nend\n", 4)
	checkParameters(t, "the parameter inside for the input", same+"module\nin 1\nout W\nuse m0 W s0 s1\nend\n", 1)
	checkParameters(t, "the Param of the instance", same+"module\nin 3\nout 3\nuse m0 3 s0 s1\nend\n", 1, 2, 3, 4)
	checkParameters(t, "the Param of the instance and the parameter", same+"module\nin W\nout W\nuse m0 3 s0 s1\nend\n", 3)
	checkParameters(t, "another Param of the instance", same+"module\nin 3\nout 3\nuse m0 2 s0 s1\nend\n")
	checkParameters(t, "the second instance", same+"module\nin W\nout W\nout W\nuse m0 W s0 s1\nuse m0 2 s0 s2\nend\n", 2)
	checkParameters(t, "a module that is not used", "module\nin 3\nend\nmodule\nin 4\nuse m0 1 s0\nend\n"+same, 1, 2, 3, 4)
	const sink = "module\nin W\nreg 1 1\nset s1 s0\nend\n"
	checkParameters(t, "no outputs", sink+"module\nin 3\nuse m0 W s0\nend\n", 3)
	checkParameters(t, "no outputs and a second copy", sink+"module\nin 3\nin W\nuse m0 W s0\nuse m0 3 s0\nend\n", 3)
	checkParameters(t, "no outputs in a copy in a copy", sink+"module\nin 3\nuse m0 W s0\nend\nmodule\nin 3\nuse m1 W s0\nend\n", 3)
	checkParameters(t, "no outputs in a copy in a copy with its Param", sink+"module\nin 3\nuse m0 W s0\nend\nmodule\nin 3\nuse m1 2 s0\nend\n")
	const within = same + "module\nin W\nout 4\nwire 2\nset s1 s2\nuse m0 W s0 s2\nend\n"
	checkParameters(t, "a copy in a copy", within+"module\nin W\nout 4\nuse m1 W s0 s1\nend\n", 2)
	checkParameters(t, "a copy in a copy with its Param", within+"module\nin 2\nout 4\nuse m1 2 s0 s1\nend\n", 1, 2, 3, 4)
	checkParameters(t, "a copy in a copy with another Param", within+"module\nin 3\nout 4\nuse m1 3 s0 s1\nend\n")
	checkParameters(t, "a copy in a copy and the parameter", within+"module\nin W\nout 4\nuse m1 2 s0 s1\nend\n", 2)
}

// TestFlattenConnections checks ports that are connected to signals of all kinds, and several ports
// that are connected to one.
func TestFlattenConnections(t *testing.T) {
	const pass = "module\nin 2\nout 2\nin 2\nset s1 ^ s0 ~ s2\nend\n"
	checkFlatText(t, pass+"module\nout 2\nwire 2\nreg 2 2\nin 2\nset s2 s1\nuse m0 W s2 s1 s3\nuse m0 W s1 s0 s1\nend\n", 1,
		"module\nout 2\nwire 2\nreg 2 2\nin 2\nset s2 s1\nset s1 ^ s2 ~ s3\nset s0 ^ s1 ~ s1\nend\n")
	checkFlatText(t, pass+"module\nout 2\nin 2\nout 2\nuse m0 W s0 s2 s1\nuse m0 W s1 s0 s1\nend\n", 4,
		"module\nout 2\nin 2\nout 2\nset s2 ^ s0 ~ s1\nset s0 ^ s1 ~ s1\nend\n")
	// Ports of a copy are those of its own copy.
	checkFlatText(t, pass+"module\nin 2\nout 2\nuse m0 W s0 s1 s0\nend\nmodule\nin 2\nwire 2\nout 2\nuse m1 W s1 s2\nuse m1 W s0 s1\nend\n", 3,
		"module\nin 2\nwire 2\nout 2\nset s2 ^ s1 ~ s1\nset s1 ^ s0 ~ s0\nend\n")
	// The signals of a copy have the places that are left in front of them.
	checkFlatText(t, "module\nreg 1 1\nreg 2 3\nset s1 s0\nset s0 s1.1\nend\nmodule\nuse m0 W\nuse m0 W\nend\nmodule\nin 1\nuse m1 W\nuse m0 W\nend\n", 1,
		"module\nin 1\nreg 1 1\nreg 2 3\nreg 1 1\nreg 2 3\nreg 1 1\nreg 2 3\nset s2 s1\nset s1 s2.1\nset s4 s3\nset s3 s4.1\nset s6 s5\nset s5 s6.1\nend\n")
}

// TestFlattenToWhatIsNotFlat checks designs that are valid and whose flat modules are not.
func TestFlattenToWhatIsNotFlat(t *testing.T) {
	const not = "module\nin 1\nout 1\nset s1 ~ s0\nend\n"
	checkParameters(t, "two copies in a row", not+"module\nin 1\nwire 1\nout 1\nuse m0 W s1 s2\nuse m0 W s0 s1\nend\n", 1, 2, 3, 4)
	checkParameters(t, "two copies in a circle", not+"module\nout 1\nwire 1\nuse m0 W s1 s0\nuse m0 W s0 s1\nend\n")
	checkParameters(t, "a copy that reads itself", not+"module\nwire 1\nuse m0 W s0 s0\nend\n")
	checkParameters(t, "a copy and an assignment in a circle", not+"module\nwire 1\nwire 1\nset s0 s1\nuse m0 W s0 s1\nend\n")
	checkParameters(t, "a copy and a register in a circle", not+"module\nreg 1 0\nwire 1\nset s0 s1\nuse m0 W s0 s1\nend\n", 1, 2, 3, 4)
	checkParameters(t, "inputs", "module\nin W\nin W\nin 1\nend\n", 1, 2, 3)
	checkParameters(t, "inputs of a copy", "module\nin W\nin W\nin W\nend\nmodule\nin W\nuse m0 W s0 s0 s0\nend\n", 1, 2, 3, 4)
	checkParameters(t, "outputs", "module\nout W\nout W\nout 2\nset s0 1\nset s1 1\nset s2 1\nend\n", 1, 2, 3)
	checkParameters(t, "registers", "module\nreg W 1\nset s0 s0\nend\nmodule\nreg W 1\nreg W 1\nset s0 s0\nset s1 s1\nuse m0 W\nuse m0 W\nend\n", 1, 2, 3)
	checkParameters(t, "addresses", "module\nin W\nin 1\nwire 4\nmem s0 s2 s1 s2\nend\n", 2)
	checkParameters(t, "write bits", "module\nin 2\nin W\nwire 4\nmem s0 s2 s1 s2\nend\n", 1)
	checkParameters(t, "data", "module\nin 2\nin 1\nwire 3\nin W\nmem s0 s3 s1 s2\nend\n", 3)
	checkParameters(t, "words", "module\nin 2\nin 1\nwire W\nin 4\nmem s0 s3 s1 s2\nend\n", 4)
	checkParameters(t, "addresses in a copy", "module\nwire W\nwire 1\nwire 4\nset s0 W\nset s1 1\nmem s0 s2 s1 s2\nend\nmodule\nuse m0 W\nend\n", 2)
	checkParameters(t, "addresses in a copy with its Param", "module\nwire W\nwire 1\nwire 4\nset s0 W\nset s1 1\nmem s0 s2 s1 s2\nend\nmodule\nuse m0 2\nend\n", 1, 2, 3, 4)
}

// wires is a module with nothing but wires.
func wires(count int) impl.Module {
	m := impl.Module{Signals: signalsOfKinds(slices.Repeat([]int{impl.SigWire}, count)...)}
	for s := range count {
		m.Assigns = append(m.Assigns, assign(s))
	}
	return m
}

// TestFlattenCounts checks flat modules with as many signals, assignments and memories as possible,
// and with one more. As each signal is driven once, one more assignment needs one more signal.
func TestFlattenCounts(t *testing.T) {
	for copies := range 4 {
		for inTop := range 31 {
			for inCopy := range 12 {
				top := wires(inTop)
				top.Insts = make([]impl.Inst, copies)
				d := impl.Design{Modules: []impl.Module{wires(inCopy), top}}
				flat, ok := impl.Flatten(d, 2)
				if count := inTop + copies*inCopy; ok != (count <= 30) || ok && !sameModule(flat, wires(count)) {
					t.Errorf("Flatten of %d wires and %d times %d = %v, %v", inTop, copies, inCopy, flat, ok)
				}
				top.Signals = append(slices.Clone(top.Signals), impl.Signal{Width: 1})
				d.Modules[1] = top
				if _, ok := impl.Flatten(d, 2); ok != (inTop+copies*inCopy+1 <= 30) {
					t.Errorf("Flatten of an input, %d wires and %d times %d = %v", inTop, copies, inCopy, ok)
				}
			}
		}
	}
}

func TestFlattenMemories(t *testing.T) {
	const memory = "module\nwire 2\nwire 1\nwire 1\nset s0 1\nset s1 1\nmem s0 s1 s1 s2\nend\n"
	const inTop = "wire 2\nwire 1\nwire 1\nset s0 1\nset s1 1\n"
	all := []int{1, 2, 3, 4}
	checkParameters(t, "two copies", memory+"module\nuse m0 W\nuse m0 W\nend\n", all...)
	checkParameters(t, "three copies", memory+"module\nuse m0 W\nuse m0 W\nuse m0 W\nend\n")
	checkParameters(t, "one copy and one memory", memory+"module\n"+inTop+"use m0 W\nmem s0 s1 s1 s2\nend\n", all...)
	checkParameters(t, "two copies and one memory", memory+"module\n"+inTop+"use m0 W\nuse m0 W\nmem s0 s1 s1 s2\nend\n")
	checkParameters(t, "a copy with a copy", memory+"module\n"+inTop+"use m0 W\nmem s0 s1 s1 s2\nend\nmodule\nuse m1 W\nend\n", all...)
	checkParameters(t, "copies with a copy", memory+"module\nuse m0 W\nend\nmodule\nuse m1 W\nuse m1 W\nend\n", all...)
	checkParameters(t, "three copies with a copy", memory+"module\nuse m0 W\nend\nmodule\nuse m1 W\nuse m1 W\nuse m1 W\nend\n")
}

// TestFlattenMostCopies checks a design with as many copies as possible.
func TestFlattenMostCopies(t *testing.T) {
	for count, ok := range map[int]bool{0: true, 1: true, 2: false, 30: false} {
		d := impl.Design{Modules: []impl.Module{wires(count), {}, {}, {}}}
		for k := 1; k < 4; k++ {
			d.Modules[k].Insts = []impl.Inst{{Module: k - 1}, {Module: k - 1}, {Module: k - 1}}
		}
		if got := checkFlat(t, "27 copies", d) == 4; got != ok {
			t.Errorf("27 copies with %d wires: Flatten = %v", count, got)
		}
		for k := 1; k < 4; k++ {
			d.Modules[k].Signals, d.Modules[k].Assigns = wires(count).Signals, wires(count).Assigns
		}
		if got := checkFlat(t, "40 copies", d) == 4; got != (count == 0) {
			t.Errorf("40 copies with %d wires: Flatten = %v", count, got)
		}
	}
}

func TestFlattenOfChangedDesigns(t *testing.T) {
	flat := 0
	for _, d := range append(designs(t), driverKinds()) {
		eachChange(d, append(extremes(), 6, 7, 8, 9, 10, 11), func(what string, d impl.Design) {
			flat += checkFlat(t, what, d)
		})
	}
	if flat < 1000 {
		t.Error("only", flat, "flat modules")
	}
}

func TestInstanceOf(t *testing.T) {
	for _, d := range append(designs(t), driverKinds(), impl.Design{Modules: make([]impl.Module, 4)}) {
		for k := range d.Modules {
			part, ok := impl.InstanceOf(d, k)
			if !ok || !sameDesign(part, impl.Design{Modules: d.Modules[:k+1]}) || !impl.DesignOk(part) {
				t.Errorf("InstanceOf for module %d = %v, %v, of %v", k, part, ok, d)
			}
			if again, ok := impl.InstanceOf(part, k); !ok || !sameDesign(again, part) {
				t.Errorf("InstanceOf for the last module = %v, %v", again, ok)
			}
			checkFlat(t, "a part of a design", part)
		}
		for _, k := range append(extremes(), len(d.Modules)) {
			if k >= 0 && k < len(d.Modules) {
				continue
			}
			if part, ok := impl.InstanceOf(d, k); part.Modules != nil || ok {
				t.Errorf("InstanceOf for module %d of %d = %v, %v", k, len(d.Modules), part, ok)
			}
		}
	}
}

// TestInstanceOfInvalidDesigns checks that a module that is not valid matters behind module k, too.
func TestInstanceOfInvalidDesigns(t *testing.T) {
	invalid := []impl.Design{{}, {Modules: slices.Repeat([]impl.Module{source()}, 5)}}
	for place := range 4 {
		d := impl.Design{Modules: []impl.Module{source(), source(), source(), source()}}
		d.Modules[place].Assigns = nil
		invalid = append(invalid, d)
	}
	for _, d := range invalid {
		for _, k := range extremes() {
			if part, ok := impl.InstanceOf(d, k); part.Modules != nil || ok {
				t.Errorf("InstanceOf for module %d = %v, %v, of %v", k, part, ok, d)
			}
			if flat, ok := impl.Flatten(d, k); !sameModule(flat, impl.Module{}) || ok {
				t.Errorf("Flatten with the parameter %d = %v, %v, of %v", k, flat, ok, d)
			}
		}
	}
}

// checkOwnMemory checks that what is returned for a design shares no memory with it or within
// itself, and that a change of it does not change the design.
func checkOwnMemory(t *testing.T, original impl.Design) {
	t.Helper()
	d, before := roomy(original), roomy(original)
	for _, m := range d.Modules {
		order, _ := impl.EvalOrder(m)
		impl.FlatOk(m)
		for kind := -1; kind <= 4; kind++ {
			widths := impl.PortWidths(m, kind)
			if sharesMemory(order, widths, d) {
				t.Error("EvalOrder or PortWidths share memory with the argument")
			}
			clear(widths[:cap(widths)])
		}
		clear(order[:cap(order)])
	}
	for n := -1; n <= 5; n++ {
		flat, _ := impl.Flatten(d, n)
		part, _ := impl.InstanceOf(d, n)
		if sharesMemory(flat, part, d) {
			t.Error("Flatten or InstanceOf share memory with the argument, or within the result")
		}
		whole := impl.Design{Modules: append(part.Modules, flat)}
		numbers(&whole, func(number reflect.Value) { number.SetInt(77) })
	}
	if !untouched(d, before) {
		t.Errorf("%v was changed to %v", before, d)
	}
}

func TestFlatMemory(t *testing.T) {
	for _, d := range append(designs(t), driverKinds(), impl.Design{}, impl.Design{Modules: make([]impl.Module, 2)}) {
		checkOwnMemory(t, d)
		for k := range d.Modules {
			checkOwnMemory(t, alone(d.Modules[k]))
		}
	}
	broken := driverKinds()
	broken.Modules[2].Insts[0].Ports = []int{-1, 99}
	checkOwnMemory(t, broken)
	for _, text := range []string{nestedFlatText, memoriesFlatText} {
		checkOwnMemory(t, read(t, text))
	}
	// Parts of one argument may share memory; the same parts of a result do not.
	shared := alone(wires(30))
	for i := range shared.Modules[0].Assigns {
		shared.Modules[0].Assigns[i].Ops = shared.Modules[0].Assigns[0].Ops
	}
	shared.Modules = append(shared.Modules, shared.Modules[0])
	flat, ok := impl.Flatten(shared, 1)
	part, is := impl.InstanceOf(shared, 1)
	if !ok || !is || sharesMemory(flat, part, shared.Modules[0].Assigns[0].Ops) {
		t.Error("results share memory where the argument does")
	}
}
