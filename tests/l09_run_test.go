package tests

import (
	"math"
	"slices"
	"testing"

	"loop.example/g03311/impl"
)

// bitList returns the lowest bits of a number, which may be negative, as a list.
func bitList(n int, count int) []int {
	var list []int
	for k := range count {
		list = append(list, modulo(n, k+1)/(1<<k))
	}
	return list
}

// numberOf returns the number with the given bits.
func numberOf(list []int) int {
	n := 0
	for _, bit := range slices.Backward(list) {
		n = 2*n + bit
	}
	return n
}

// inStates reports whether a kind of sequential elements exists and has a state.
func inStates(kind int, value int) bool {
	return kind == 0 && slices.Contains(upTo(2), value) || kind == 1 && slices.Contains(upTo(32), value)
}

// seqNext is SeqNext by lists of bits.
func seqNext(kind int, value int, in int) int {
	if !inStates(kind, value) {
		return -1
	}
	pins := bitList(in, 4)
	if kind == 0 {
		return pins[0]
	}
	cells := bitList(value, 5)
	address := pins[0] + 2*pins[1]
	cells[0] = cells[1+address]
	if pins[3] == 1 {
		cells[1+address] = pins[2]
	}
	return numberOf(cells)
}

// stateOk is StateOk by lists of all states.
func stateOk(n impl.Net, st []int) bool {
	if !netOk(n) || len(st) != len(n.Seqs) {
		return false
	}
	for i, s := range n.Seqs {
		if !inStates(s.Kind, st[i]) {
			return false
		}
	}
	return true
}

// litValue is LitValue by a list of the values of all literals.
func litValue(values []int, lit int) int {
	var all []int
	for _, value := range values {
		switch value {
		case 0:
			all = append(all, 0, 1)
		case 1:
			all = append(all, 1, 0)
		default:
			all = append(all, -1, -1)
		}
	}
	if !slices.Contains(upTo(len(all)), lit) {
		return -1
	}
	return all[lit]
}

// nodeValues returns the values of the nodes of a valid net: those of AND nodes, with which it
// begins anyhow, are changed from the last node to the first one until all of them fit.
func nodeValues(n impl.Net, st []int, in int) []int {
	values := append([]int{0}, bitList(in, n.Inputs)...)
	for _, value := range st {
		values = append(values, value%2)
	}
	first := len(values)
	values = append(values, slices.Repeat([]int{1}, len(n.Ands))...)
	for changed := true; changed; {
		changed = false
		for i, and := range slices.Backward(n.Ands) {
			fitting := (values[and.A/2] + and.A) % 2 * ((values[and.B/2] + and.B) % 2)
			changed = changed || values[first+i] != fitting
			values[first+i] = fitting
		}
	}
	return values
}

// stepOf returns the next state of a valid net and its outputs.
func stepOf(n impl.Net, st []int, in int) ([]int, int) {
	values := nodeValues(n, st, in)
	valuesOf := func(lits []int) int {
		var list []int
		for _, lit := range lits {
			list = append(list, litValue(values, lit))
		}
		return numberOf(list)
	}
	var next []int
	for i, s := range n.Seqs {
		next = append(next, seqNext(s.Kind, st[i], valuesOf(s.In)))
	}
	return next, valuesOf(n.Outs)
}

// checkNetCycle checks what Chapter 9 says about a cycle of a net. Nothing needs to be valid.
func checkNetCycle(t *testing.T, what string, n impl.Net, st []int, in int) {
	t.Helper()
	ok := stateOk(n, st)
	var values, next []int
	outs := 0
	if ok {
		values = nodeValues(n, st, in)
		next, outs = stepOf(n, st, in)
	}
	if got := impl.StateOk(n, st); got != ok {
		t.Errorf("%s: StateOk = %v for the state %v of %v", what, got, st, n)
	}
	if got := impl.NodeValues(n, st, in); !slices.Equal(got, values) {
		t.Errorf("%s: NodeValues = %v, want %v, for the state %v and the inputs %d of %v", what, got, values, st, in, n)
	}
	if gotNext, gotOuts := impl.NetStep(n, st, in); !slices.Equal(gotNext, next) || gotOuts != outs {
		t.Errorf("%s: NetStep = %v, %d, want %v, %d, for the state %v and the inputs %d of %v", what, gotNext, gotOuts, next, outs, st, in, n)
	}
}

// checkNetRun checks what Chapter 9 says about a run of a net. Nothing needs to be valid.
func checkNetRun(t *testing.T, what string, n impl.Net, ins []int) {
	t.Helper()
	var start, run []int
	if netOk(n) {
		for _, s := range n.Seqs {
			start = append(start, s.Init)
		}
		st, outs := start, 0
		for _, in := range ins[:min(len(ins), 16)] {
			st, outs = stepOf(n, st, in)
			run = append(run, outs)
		}
		if len(ins) > 16 {
			run = nil
		}
	}
	if got := impl.NetStart(n); !slices.Equal(got, start) {
		t.Errorf("%s: NetStart = %v, want %v, of %v", what, got, start, n)
	}
	if got := impl.NetRun(n, ins); !slices.Equal(got, run) {
		t.Errorf("%s: NetRun = %v, want %v, for the inputs %v of %v", what, got, run, ins, n)
	}
}

// packed returns the number whose bits are the values that LitValue gives for the literals.
func packed(values []int, lits []int) int {
	var list []int
	for _, lit := range lits {
		list = append(list, impl.LitValue(values, lit))
	}
	return numberOf(list)
}

// checkNetSteps checks by the results alone that a run of a valid net consists of steps, that its
// beginnings are runs, too, that a step follows from the values of the nodes, and that inputs that
// differ in bits from Inputs on give the same.
func checkNetSteps(t *testing.T, what string, n impl.Net, ins []int) {
	t.Helper()
	run, st := impl.NetRun(n, ins), impl.NetStart(n)
	if len(run) != len(ins) {
		t.Errorf("%s: %d outputs for %d cycles of %v", what, len(run), len(ins), n)
		return
	}
	for c, in := range ins {
		if got := impl.NetRun(n, ins[:c]); !slices.Equal(got, run[:c]) {
			t.Errorf("%s: the run of %d cycles has the outputs %v, and not the first ones of %v, of %v", what, c, got, run, n)
		}
		values := impl.NodeValues(n, st, in)
		next, outs := impl.NetStep(n, st, in)
		if !impl.StateOk(n, st) || outs != run[c] || outs != packed(values, n.Outs) {
			t.Errorf("%s: cycle %d has the outputs %d, in the run %d, with the values %v in the state %v, of %v", what, c, outs, run[c], values, st, n)
		}
		for i, s := range n.Seqs {
			if want := impl.SeqNext(s.Kind, st[i], packed(values, s.In)); next[i] != want {
				t.Errorf("%s: element %d becomes %d after cycle %d, want %d, of %v", what, i, next[i], c, want, n)
			}
		}
		for _, other := range sameLowBits(in, n.Inputs) {
			otherNext, otherOuts := impl.NetStep(n, st, other)
			if !slices.Equal(impl.NodeValues(n, st, other), values) || !slices.Equal(otherNext, next) || otherOuts != outs {
				t.Errorf("%s: the inputs %d and %d are not the same for %v", what, in, other, n)
			}
		}
		st = next
	}
	for way := range sameLowBits(0, n.Inputs) {
		var others []int
		for _, in := range ins {
			others = append(others, sameLowBits(in, n.Inputs)[way])
		}
		if got := impl.NetRun(n, others); !slices.Equal(got, run) {
			t.Errorf("%s: the inputs %v have the run %v, and %v have %v, of %v", what, others, got, ins, run, n)
		}
	}
}

// sameLowBits returns numbers whose lowest bits are those of the given one.
func sameLowBits(in int, bits int) []int {
	low := modulo(in, bits)
	return []int{low, in + 1<<bits, in - 1<<bits, math.MinInt64 + low, math.MaxInt64 - (1<<bits - 1) + low, low - 1<<bits, low + 5<<40}
}

// checkMemories checks that each memory of a valid net shows, one cycle after it was read, what was
// stored last at the address.
func checkMemories(t *testing.T, what string, n impl.Net, ins []int) {
	t.Helper()
	for i, s := range n.Seqs {
		if s.Kind != impl.SeqRam {
			continue
		}
		shown, stored := s.Init%2, bitList(s.Init/2, 4)
		st := impl.NetStart(n)
		for c, in := range ins {
			values := impl.NodeValues(n, st, in)
			if got := values[1+n.Inputs+i]; got != shown {
				t.Errorf("%s: memory %d shows %d in cycle %d, want %d, of %v", what, i, got, c, shown, n)
			}
			address := impl.LitValue(values, s.In[0]) + 2*impl.LitValue(values, s.In[1])
			shown = stored[address]
			if impl.LitValue(values, s.In[3]) == 1 {
				stored[address] = impl.LitValue(values, s.In[2])
			}
			st, _ = impl.NetStep(n, st, in)
		}
	}
}

// checkRuns checks a run of a valid net in all ways.
func checkRuns(t *testing.T, what string, n impl.Net, ins []int) {
	t.Helper()
	checkNetRun(t, what, n, ins)
	checkNetSteps(t, what, n, ins)
	checkMemories(t, what, n, ins)
}

// someStates returns a state for each sequential element of a net.
func someStates(n impl.Net, pick func(n int) int) []int {
	var st []int
	for _, s := range n.Seqs {
		if s.Kind == impl.SeqRam {
			st = append(st, pick(32))
		} else {
			st = append(st, pick(2))
		}
	}
	return st
}

// someCycles returns inputs for a number of cycles, in and out of the range of any net.
func someCycles(cycles int, pick func(n int) int) []int {
	var ins []int
	for range cycles {
		in := pick(1 << 20)
		if pick(8) == 0 {
			in = manyNumbers()[pick(len(manyNumbers()))]
		}
		ins = append(ins, in)
	}
	return ins
}

func TestSeqNext(t *testing.T) {
	cases := []struct{ kind, value, in, want int }{
		{impl.SeqFlop, 0, 0, 0}, {impl.SeqFlop, 0, 1, 1}, {impl.SeqFlop, 1, 0, 0}, {impl.SeqFlop, 1, 1, 1},
		{impl.SeqFlop, -1, 1, -1}, {impl.SeqFlop, 2, 1, -1}, {impl.SeqFlop, 2, 0, -1}, {impl.SeqFlop, 31, 0, -1},
		// The example of the document: address 0 is read and written with 1.
		{impl.SeqRam, 2, 12, 3},
		// Each address is read alone.
		{impl.SeqRam, 2, 0, 3}, {impl.SeqRam, 2, 1, 2}, {impl.SeqRam, 2, 2, 2}, {impl.SeqRam, 2, 3, 2},
		{impl.SeqRam, 4, 0, 4}, {impl.SeqRam, 4, 1, 5}, {impl.SeqRam, 4, 2, 4}, {impl.SeqRam, 4, 3, 4},
		{impl.SeqRam, 8, 0, 8}, {impl.SeqRam, 8, 1, 8}, {impl.SeqRam, 8, 2, 9}, {impl.SeqRam, 8, 3, 8},
		{impl.SeqRam, 16, 0, 16}, {impl.SeqRam, 16, 1, 16}, {impl.SeqRam, 16, 2, 16}, {impl.SeqRam, 16, 3, 17},
		// The data bit does not count without the write bit, nor does the old output bit.
		{impl.SeqRam, 0, 4, 0}, {impl.SeqRam, 1, 0, 0}, {impl.SeqRam, 1, 7, 0}, {impl.SeqRam, 31, 3, 31},
		// What is written shows in a later cycle only.
		{impl.SeqRam, 0, 12, 2}, {impl.SeqRam, 0, 13, 4}, {impl.SeqRam, 0, 14, 8}, {impl.SeqRam, 0, 15, 16},
		{impl.SeqRam, 31, 8, 29}, {impl.SeqRam, 31, 9, 27}, {impl.SeqRam, 31, 10, 23}, {impl.SeqRam, 31, 11, 15},
		{impl.SeqRam, 31, 12, 31}, {impl.SeqRam, 30, 15, 31}, {impl.SeqRam, 0, 8, 0}, {impl.SeqRam, 1, 11, 0},
		{impl.SeqRam, -1, 0, -1}, {impl.SeqRam, 32, 0, -1}, {impl.SeqRam, 32, 15, -1}, {impl.SeqRam, -1, 15, -1},
		{-1, 0, 0, -1}, {-1, 1, 15, -1}, {2, 0, 0, -1}, {2, 1, 1, -1}, {2, 31, 15, -1},
		{math.MinInt64, 0, 0, -1}, {math.MaxInt64, 0, 0, -1},
		{impl.SeqFlop, 0, -1, 1}, {impl.SeqFlop, 1, -2, 0}, {impl.SeqFlop, 1, 14, 0},
		{impl.SeqFlop, 1, math.MinInt64, 0}, {impl.SeqFlop, 0, math.MaxInt64, 1},
		{impl.SeqRam, 2, -4, 3}, {impl.SeqRam, 16, -5, 1}, {impl.SeqRam, 2, 12 + 16, 3}, {impl.SeqRam, 0, -1, 16},
		{impl.SeqRam, 2, math.MinInt64, 3}, {impl.SeqRam, 0, math.MaxInt64, 16},
	}
	for _, c := range cases {
		if got := impl.SeqNext(c.kind, c.value, c.in); got != c.want {
			t.Errorf("SeqNext(%d, %d, %d) = %d, want %d", c.kind, c.value, c.in, got, c.want)
		}
	}
}

// TestSeqNextOfManyNumbers checks kinds and values that exist and others, with any in.
func TestSeqNextOfManyNumbers(t *testing.T) {
	for _, kind := range manyNumbers() {
		for _, value := range manyNumbers() {
			for _, in := range manyNumbers() {
				if got, want := impl.SeqNext(kind, value, in), seqNext(kind, value, in); got != want {
					t.Errorf("SeqNext(%d, %d, %d) = %d, want %d", kind, value, in, got, want)
				}
			}
		}
	}
}

func TestSeqNextCountsFewBits(t *testing.T) {
	for kind, count := range []int{1, 4} {
		for value := range 32 {
			for in := range 1 << count {
				want := impl.SeqNext(kind, value, in)
				for _, other := range sameLowBits(in, count) {
					if got := impl.SeqNext(kind, value, other); got != want {
						t.Errorf("SeqNext(%d, %d, %d) = %d, and with %d it is %d", kind, value, other, got, in, want)
					}
				}
			}
		}
	}
}

// TestSeqNextShowsWhatWasStored checks all states of a memory and all values of in: what was stored
// is the new output bit, and what is written can be read, while the other addresses keep their bits.
func TestSeqNextShowsWhatWasStored(t *testing.T) {
	read := func(value int, address int) int { return impl.SeqNext(impl.SeqRam, value, address) % 2 }
	for value := range 32 {
		for in := range 16 {
			next := impl.SeqNext(impl.SeqRam, value, in)
			if next%2 != read(value, in%4) {
				t.Errorf("the memory %d shows %d after %d", value, next%2, in)
			}
			for address := range 4 {
				want := read(value, address)
				if in >= 8 && in%4 == address {
					want = in / 4 % 2
				}
				if got := read(next, address); got != want {
					t.Errorf("the memory %d has %d at the address %d after %d, want %d", value, got, address, in, want)
				}
			}
		}
	}
}

// pinsNet returns a net in which the four inputs are the address bits, the data bit and the write bit
// of a memory, which is the only output.
func pinsNet(init int) impl.Net {
	return impl.Net{Inputs: 4, Seqs: []impl.Seq{ram(init, 2, 4, 6, 8)}, Outs: []int{10}}
}

// TestMemoryShowsWhatWasStored checks all runs of four cycles of a memory, from all its states, with
// the last cycle before that wrote to the address.
func TestMemoryShowsWhatWasStored(t *testing.T) {
	lastStored := func(init int, before []int, address int) int {
		for _, in := range slices.Backward(before) {
			if in >= 8 && in%4 == address {
				return in / 4 % 2
			}
		}
		return init >> (1 + address) % 2
	}
	for init := range 32 {
		n := pinsNet(init)
		ins := make([]int, 4)
		for more := true; more; more = countUp(ins[:3], []int{15, 15, 15}) {
			run := impl.NetRun(n, ins)
			if len(run) != 4 || run[0] != init%2 {
				t.Fatalf("NetRun = %v for the memory %d", run, init)
			}
			for c, in := range ins[:3] {
				if want := lastStored(init, ins[:c], in%4); run[c+1] != want {
					t.Errorf("after cycle %d of %v the memory %d shows %d, want %d", c, ins, init, run[c+1], want)
				}
			}
		}
	}
}

// TestStepsOfMemories checks steps from all states of a memory with all values of in.
func TestStepsOfMemories(t *testing.T) {
	n := pinsNet(9)
	for value := range 32 {
		for in := range 16 {
			next, outs := impl.NetStep(n, []int{value}, in)
			if !slices.Equal(next, []int{impl.SeqNext(impl.SeqRam, value, in)}) || outs != value%2 {
				t.Errorf("NetStep = %v, %d for the memory %d and the inputs %d", next, outs, value, in)
			}
			checkNetCycle(t, "a memory", n, []int{value}, in)
			checkRuns(t, "a memory", pinsNet(value), []int{in, in % 4, in ^ 1, in % 4, in ^ 2, in ^ 12, in})
		}
	}
}

func TestMemoryReadAndWritten(t *testing.T) {
	// The same address is read and written in each cycle, with 1, 0, 0, 1 and 1.
	for address := range 4 {
		var ins []int
		for _, data := range []int{1, 0, 0, 1, 1} {
			ins = append(ins, 8+4*data+address)
		}
		for init, want := range map[int][]int{0: {0, 0, 1, 0, 0}, 30: {0, 1, 1, 0, 0}, 31: {1, 1, 1, 0, 0}} {
			if got := impl.NetRun(pinsNet(init), ins); !slices.Equal(got, want) {
				t.Errorf("NetRun = %v for the address %d of the memory %d, want %v", got, address, init, want)
			}
		}
	}
	// The memory stores the opposite of its output at the address 3, which it reads.
	n := impl.Net{Seqs: []impl.Seq{ram(0, 1, 1, 3, 1)}, Outs: []int{2}}
	if got, want := impl.NetRun(n, make([]int, 8)), []int{0, 0, 1, 1, 0, 0, 1, 1}; !slices.Equal(got, want) {
		t.Errorf("NetRun = %v of a memory that stores the opposite of its output, want %v", got, want)
	}
	checkRuns(t, "the opposite of its output", n, make([]int, 8))
}

func TestStateOk(t *testing.T) {
	nets := []struct {
		n    impl.Net
		last []int
	}{
		{impl.Net{Seqs: []impl.Seq{flop(1, 0)}}, []int{1}},
		{impl.Net{Seqs: []impl.Seq{ram(0, 0, 0, 0, 0)}}, []int{31}},
		{impl.SampleNet(), []int{1}},
		{smallNet(), []int{1, 31}},
		{impl.Net{Inputs: 2, Seqs: []impl.Seq{ram(31, 2, 4, 6, 8), flop(0, 3), flop(1, 1), ram(1, 0, 0, 0, 0)}, Outs: []int{3}}, []int{31, 1, 1, 31}},
	}
	for _, c := range nets {
		for _, st := range [][]int{make([]int, len(c.last)), slices.Clone(c.last)} {
			if !impl.StateOk(c.n, st) {
				t.Errorf("StateOk is false for %v of %v", st, c.n)
			}
			for i, before := range slices.Clone(st) {
				for _, value := range manyNumbers() {
					st[i] = value
					if got := impl.StateOk(c.n, st); got != (value >= 0 && value <= c.last[i]) {
						t.Errorf("StateOk = %v for %v of %v", got, st, c.n)
					}
					checkNetCycle(t, "another number", c.n, st, 5)
				}
				st[i] = before
			}
		}
	}
}

func TestStateOkLengths(t *testing.T) {
	for seqs := range 14 {
		n := netOfLengths(1, seqs, 2, 1)
		for length := range 30 {
			st := make([]int, length)
			want := length == seqs && seqs <= 12
			if got := impl.StateOk(n, st); got != want {
				t.Errorf("StateOk = %v for %d numbers and %d sequential elements", got, length, seqs)
			}
			next, outs := impl.NetStep(n, st, 1)
			if got := impl.NodeValues(n, st, 1); !want && (got != nil || next != nil || outs != 0) {
				t.Errorf("NodeValues = %v and NetStep = %v, %d for %d numbers and %d sequential elements", got, next, outs, length, seqs)
			}
			checkNetCycle(t, "a number of numbers", n, st, 1)
		}
		if got := impl.StateOk(n, nil); got != (seqs == 0) {
			t.Errorf("StateOk = %v for nil and %d sequential elements", got, seqs)
		}
	}
}

// TestRunsOfInvalidNets checks nets that are not valid with states that would fit them.
func TestRunsOfInvalidNets(t *testing.T) {
	if !impl.StateOk(smallNet(), []int{0, 0}) || len(impl.NetRun(smallNet(), []int{1})) != 1 {
		t.Error("the net is not valid before it is changed")
	}
	for what, n := range invalidNets() {
		for _, st := range [][]int{nil, make([]int, len(n.Seqs)), {1}, {1, 7}} {
			if impl.StateOk(n, st) {
				t.Errorf("%s: StateOk is true for %v of %v", what, st, n)
			}
			if got := impl.NodeValues(n, st, 3); got != nil {
				t.Errorf("%s: NodeValues = %v of %v", what, got, n)
			}
			if next, outs := impl.NetStep(n, st, 3); next != nil || outs != 0 {
				t.Errorf("%s: NetStep = %v, %d of %v", what, next, outs, n)
			}
		}
		if got := impl.NetStart(n); got != nil {
			t.Errorf("%s: NetStart = %v of %v", what, got, n)
		}
		for _, ins := range [][]int{nil, {}, {0}, {3, 2}, make([]int, 16), make([]int, 17)} {
			if got := impl.NetRun(n, ins); got != nil {
				t.Errorf("%s: NetRun = %v of %v", what, got, n)
			}
		}
	}
}

func TestNodeValues(t *testing.T) {
	cases := []struct {
		what string
		n    impl.Net
		st   []int
		in   int
		want []int
	}{
		{"only node 0", impl.Net{}, nil, -1, []int{0}},
		{"inputs alone", impl.Net{Inputs: 4}, []int{}, 6, []int{0, 0, 1, 1, 0}},
		{"inputs from a negative number", impl.Net{Inputs: 4}, nil, -7, []int{0, 1, 0, 0, 1}},
		{"flip-flops alone", impl.Net{Seqs: []impl.Seq{flop(0, 0), flop(0, 0)}}, []int{1, 0}, 7, []int{0, 1, 0}},
		{"memories alone", impl.Net{Seqs: slices.Repeat([]impl.Seq{ram(0, 0, 0, 0, 0)}, 4)}, []int{30, 31, 2, 1}, 7, []int{0, 0, 1, 0, 1}},
		{"AND nodes alone", impl.Net{Ands: gates(1, 1, 2, 1, 3, 1)}, nil, 7, []int{0, 1, 1, 0}},
		{"no inputs", impl.Net{Seqs: []impl.Seq{flop(0, 0), ram(0, 0, 0, 0, 0)}, Ands: gates(2, 4, 2, 5)}, []int{1, 14}, 7, []int{0, 1, 0, 0, 1}},
		{"no sequential elements", impl.Net{Inputs: 2, Ands: gates(2, 4, 7, 4)}, nil, 2, []int{0, 0, 1, 0, 1}},
		{"no AND nodes", impl.Net{Inputs: 2, Seqs: []impl.Seq{ram(0, 0, 0, 0, 0)}, Outs: []int{6}}, []int{17}, 2, []int{0, 0, 1, 1}},
		{"two equal literals", impl.Net{Inputs: 2, Ands: gates(2, 2, 3, 3, 4, 4, 5, 5)}, nil, 1, []int{0, 1, 0, 1, 0, 0, 1}},
		{"two opposite literals", impl.Net{Inputs: 2, Ands: gates(2, 3, 3, 2, 4, 5, 5, 4)}, nil, 1, []int{0, 1, 0, 0, 0, 0, 0}},
		{"two constants", impl.Net{Ands: gates(0, 0, 0, 1, 1, 0, 1, 1)}, nil, 0, []int{0, 0, 0, 0, 1}},
		{"all literals of two inputs", impl.Net{Inputs: 2, Ands: gates(2, 4, 2, 5, 3, 4, 3, 5)}, nil, 0, []int{0, 0, 0, 0, 0, 0, 1}},
		{"all literals of two inputs", impl.Net{Inputs: 2, Ands: gates(2, 4, 2, 5, 3, 4, 3, 5)}, nil, 1, []int{0, 1, 0, 0, 1, 0, 0}},
		{"all literals of two inputs", impl.Net{Inputs: 2, Ands: gates(2, 4, 2, 5, 3, 4, 3, 5)}, nil, 2, []int{0, 0, 1, 0, 0, 1, 0}},
		{"all literals of two inputs", impl.Net{Inputs: 2, Ands: gates(2, 4, 2, 5, 3, 4, 3, 5)}, nil, 3, []int{0, 1, 1, 1, 0, 0, 0}},
		{"the sample", impl.SampleNet(), []int{1}, 3, []int{0, 1, 1, 1, 1}},
		{"the sample", impl.SampleNet(), []int{0}, 3, []int{0, 1, 1, 0, 0}},
		{"the sample", impl.SampleNet(), []int{1}, 2, []int{0, 0, 1, 1, 0}},
	}
	for _, c := range cases {
		if got := impl.NodeValues(c.n, c.st, c.in); !slices.Equal(got, c.want) {
			t.Errorf("%s: NodeValues = %v, want %v, of %v", c.what, got, c.want, c.n)
		}
		checkNetCycle(t, c.what, c.n, c.st, c.in)
	}
	for k := range 20 {
		want := make([]int, 21)
		want[k+1] = 1
		if got := impl.NodeValues(impl.Net{Inputs: 20}, nil, 1<<k); !slices.Equal(got, want) {
			t.Errorf("NodeValues = %v for input %d", got, k)
		}
	}
}

// TestNetsWithout checks nets without inputs, without sequential elements, without AND nodes and
// without outputs, and with as many as there may be.
func TestNetsWithout(t *testing.T) {
	pick := picker(90)
	for _, inputs := range []int{0, 1, 20} {
		for _, seqs := range []int{0, 1, 12} {
			for _, ands := range []int{0, 1, 300} {
				for _, outs := range []int{0, 1, 16} {
					n := someNet(inputs, seqs, ands, outs, 1, pick)
					ins := someCycles(16, pick)
					checkRuns(t, "a limit", n, ins)
					for _, in := range ins {
						checkNetCycle(t, "a limit", n, someStates(n, pick), in)
					}
				}
			}
		}
	}
}

func TestLitValue(t *testing.T) {
	list := []int{0, 1, 1, 0, 2, -1, math.MinInt64, math.MaxInt64, 1}
	cases := map[int]int{
		0: 0, 1: 1, 2: 1, 3: 0, 4: 1, 5: 0, 6: 0, 7: 1, 8: -1, 9: -1, 10: -1, 11: -1, 12: -1, 13: -1, 14: -1, 15: -1, 16: 1, 17: 0,
		18: -1, 19: -1, -1: -1, -2: -1, -3: -1, math.MinInt64: -1, math.MinInt64 + 1: -1, math.MaxInt64: -1, math.MaxInt64 - 1: -1,
	}
	for lit, want := range cases {
		if got := impl.LitValue(list, lit); got != want {
			t.Errorf("LitValue = %d for literal %d of %v, want %d", got, lit, list, want)
		}
	}
	for _, lit := range manyNumbers() {
		for _, empty := range [][]int{nil, {}, list[:0]} {
			if got := impl.LitValue(empty, lit); got != -1 {
				t.Errorf("LitValue = %d for literal %d of an empty list", got, lit)
			}
		}
		for _, value := range manyNumbers() {
			for _, values := range [][]int{{value}, {value, 0}, {0, value}, {1, value, 1}} {
				if got, want := impl.LitValue(values, lit), litValue(values, lit); got != want {
					t.Errorf("LitValue = %d for literal %d of %v, want %d", got, lit, values, want)
				}
			}
		}
	}
}

func TestNetStart(t *testing.T) {
	cases := []struct {
		n    impl.Net
		want []int
	}{
		{impl.Net{}, nil},
		{impl.Net{Inputs: 3, Ands: gates(2, 4), Outs: []int{8}}, nil},
		{impl.SampleNet(), []int{1}},
		{smallNet(), []int{1, 7}},
		{impl.Net{Seqs: []impl.Seq{ram(31, 0, 0, 0, 0), flop(0, 1), flop(1, 0), ram(0, 1, 1, 1, 1), ram(18, 1, 1, 1, 1)}}, []int{31, 0, 1, 0, 18}},
	}
	for _, c := range cases {
		if got := impl.NetStart(c.n); !slices.Equal(got, c.want) {
			t.Errorf("NetStart = %v, want %v, of %v", got, c.want, c.n)
		}
		if !impl.StateOk(c.n, impl.NetStart(c.n)) {
			t.Errorf("the initial state %v of %v is not valid", impl.NetStart(c.n), c.n)
		}
		checkRuns(t, "a start", c.n, []int{1, 2, 3})
	}
	for init := range 32 {
		n := impl.Net{Seqs: []impl.Seq{ram(init, 0, 0, 0, 0), flop(init%2, 0)}}
		if got := impl.NetStart(n); !slices.Equal(got, []int{init, init % 2}) {
			t.Errorf("NetStart = %v, want %d and %d", got, init, init%2)
		}
	}
}

func TestNetStep(t *testing.T) {
	shift := impl.Net{Inputs: 1, Seqs: []impl.Seq{flop(0, 2), flop(0, 4), flop(0, 7)}, Outs: []int{4, 6, 8, 1, 0, 3}}
	exchange := impl.Net{Seqs: []impl.Seq{flop(0, 4), flop(1, 2)}, Outs: []int{4, 2}}
	// The memory reads and writes at the flip-flops, which take its output and what it stores.
	both := impl.Net{Inputs: 1, Seqs: []impl.Seq{flop(0, 8), ram(0, 4, 8, 2, 1), flop(0, 3)}, Outs: []int{6, 4}}
	cases := []struct {
		n     impl.Net
		st    []int
		in    int
		next  []int
		outs  int
		wrong []int
	}{
		{impl.SampleNet(), []int{1}, 3, []int{0}, 1, []int{2}},
		{impl.SampleNet(), []int{1}, 2, []int{1}, 0, []int{}},
		{impl.SampleNet(), []int{0}, 3, []int{1}, 2, []int{0, 0}},
		{impl.SampleNet(), []int{0}, -1, []int{1}, 2, []int{math.MaxInt64}},
		{impl.SampleNet(), []int{1}, math.MinInt64, []int{1}, 0, []int{math.MinInt64}},
		{impl.SampleNet(), []int{1}, math.MaxInt64, []int{0}, 1, []int{-1}},
		{shift, []int{1, 0, 0}, 0, []int{0, 1, 1}, 1 + 8 + 32, []int{0, 1}},
		{shift, []int{0, 1, 1}, 1, []int{1, 0, 0}, 2 + 4 + 8, []int{0, 1, 2}},
		{exchange, []int{0, 1}, 0, []int{1, 0}, 1, []int{2, 0}},
		{exchange, []int{1, 0}, 0, []int{0, 1}, 2, []int{-1, 0}},
		{both, []int{1, 0, 1}, 1, []int{1, 16, 0}, 2, []int{1, 32, 1}},
		{both, []int{1, 4, 0}, 0, []int{0, 1, 1}, 2, []int{2, 4, 0}},
		{impl.Net{}, nil, 5, nil, 0, []int{0}},
		{impl.Net{Outs: slices.Repeat([]int{1}, 16)}, nil, 0, nil, 65535, []int{1}},
		{impl.Net{Inputs: 20, Outs: []int{40, 41, 2, 40}}, nil, 1 << 19, nil, 9, []int{0, 0}},
	}
	for _, c := range cases {
		if next, outs := impl.NetStep(c.n, c.st, c.in); !slices.Equal(next, c.next) || outs != c.outs {
			t.Errorf("NetStep = %v, %d, want %v, %d, for the state %v and the inputs %d of %v", next, outs, c.next, c.outs, c.st, c.in, c.n)
		}
		if next, outs := impl.NetStep(c.n, c.wrong, c.in); next != nil || outs != 0 {
			t.Errorf("NetStep = %v, %d for the state %v of %v", next, outs, c.wrong, c.n)
		}
		if got := impl.NodeValues(c.n, c.wrong, c.in); got != nil {
			t.Errorf("NodeValues = %v for the state %v of %v", got, c.wrong, c.n)
		}
		checkNetCycle(t, "a step", c.n, c.st, c.in)
	}
}

func TestNetRunOfSample(t *testing.T) {
	cases := []struct{ ins, want []int }{
		{[]int{3, 0, 1}, []int{1, 2, 1}},
		{[]int{0, 3, 1}, []int{0, 1, 2}},
		{[]int{2, -2, 4, -1, -1, -1}, []int{0, 0, 0, 1, 2, 1}},
		{[]int{1, math.MaxInt64, math.MaxInt64, math.MinInt64}, []int{1, 2, 1, 2}},
		{nil, nil},
	}
	for _, c := range cases {
		if got := impl.NetRun(impl.SampleNet(), c.ins); !slices.Equal(got, c.want) {
			t.Errorf("NetRun = %v for %v, want %v", got, c.ins, c.want)
		}
		checkRuns(t, "sample", impl.SampleNet(), c.ins)
	}
	for st := range 2 {
		for _, in := range manyNumbers() {
			checkNetCycle(t, "sample", impl.SampleNet(), []int{st}, in)
		}
	}
}

func TestNumberOfNetCycles(t *testing.T) {
	pick := picker(91)
	for _, n := range []impl.Net{{}, {Inputs: 1}, {Outs: []int{1}}, impl.SampleNet(), smallNet(), pinsNet(5), netOfLengths(20, 12, 300, 16)} {
		for cycles := range 40 {
			ins := someCycles(cycles, pick)
			got := impl.NetRun(n, ins)
			if cycles <= 16 && len(got) != cycles || cycles > 16 && got != nil {
				t.Errorf("NetRun = %v for %d cycles of %v", got, cycles, n)
			}
			checkNetRun(t, "a number of cycles", n, ins)
			if cycles <= 16 {
				checkRuns(t, "a number of cycles", n, ins)
			}
		}
		checkNetRun(t, "no cycles", n, nil)
		checkNetRun(t, "no cycles", n, []int{})
	}
}

func TestRunsOfAllSmallNets(t *testing.T) {
	pick := picker(92)
	eachSmallNet(func(n impl.Net) {
		for in := range 1 << n.Inputs {
			checkNetCycle(t, "a small net", n, someStates(n, pick), in)
		}
		checkRuns(t, "a small net", n, []int{pick(2), pick(2), pick(2)})
	})
}

// TestRunsOfScatteredNets checks scattered nets, states and inputs, and that the outputs of enough of
// the runs change.
func TestRunsOfScatteredNets(t *testing.T) {
	pick := picker(93)
	changing := 0
	for round := range 600 {
		n := someNet(pick(21), pick(13), pick(40), pick(17), 1+pick(4), pick)
		if round%60 == 0 {
			n = someNet(20, 12, 300, 16, 1+round/60, pick)
		}
		ins := someCycles(1+pick(16), pick)
		checkRuns(t, "a scattered net", n, ins)
		for _, in := range ins {
			checkNetCycle(t, "a scattered net", n, someStates(n, pick), in)
		}
		changing += asNumber(len(slices.Compact(impl.NetRun(n, ins))) > 3)
	}
	if changing < 200 {
		t.Error("only", changing, "runs with changing outputs")
	}
}

// TestRunsOfChangedNets changes one number or one length of a net, or of a state of it, at a time.
func TestRunsOfChangedNets(t *testing.T) {
	pick := picker(94)
	valid, invalid := 0, 0
	count := func(ok bool) {
		valid += asNumber(ok)
		invalid += asNumber(!ok)
	}
	for _, n := range []impl.Net{
		impl.SampleNet(), smallNet(), {Inputs: 3, Seqs: []impl.Seq{flop(1, 14), ram(30, 2, 13, 4, 16)}, Ands: gates(2, 5, 12, 9, 14, 10), Outs: []int{17, 1}},
	} {
		st, ins := someStates(n, pick), someCycles(4, pick)
		eachChange(n, manyNumbers(), func(what string, n impl.Net) {
			checkNetCycle(t, what, n, st, ins[0])
			checkNetRun(t, what, n, ins)
			if impl.NetOk(n) {
				checkNetSteps(t, what, n, ins)
				checkMemories(t, what, n, ins)
			}
			count(impl.NetOk(n))
		})
		eachChange(st, manyNumbers(), func(what string, st []int) {
			checkNetCycle(t, what, n, st, ins[1])
			count(impl.StateOk(n, st))
		})
		for _, in := range manyNumbers() {
			checkNetCycle(t, "any inputs", n, st, in)
		}
	}
	if valid < 300 || invalid < 300 {
		t.Error("only", valid, "valid nets and states and", invalid, "others")
	}
}

// checkOwnRun checks that no function of Chapter 9 changes its arguments or shares memory with them.
func checkOwnRun(t *testing.T, original impl.Net, state []int, inputs []int) {
	t.Helper()
	n, st, ins := roomy(original), roomy(state), roomy(inputs)
	shared := [][]int{impl.NetStart(n), impl.NetStart(n), impl.NetRun(n, ins), impl.NetRun(n, ins)}
	for _, in := range append([]int{-1}, inputs...) {
		values := impl.NodeValues(n, st, in)
		next, _ := impl.NetStep(n, st, in)
		again, _ := impl.NetStep(n, st, in)
		shared = append(shared, values, impl.NodeValues(n, st, in), next, again)
	}
	impl.StateOk(n, st)
	for lit := range 2*len(st) + 3 {
		impl.LitValue(st, lit-1)
	}
	if sharesMemory(n, st, ins, shared) {
		t.Errorf("results share memory, for %v", original)
	}
	for _, list := range shared {
		clear(list[:cap(list)])
	}
	if !untouched(n, roomy(original)) || !untouched(st, roomy(state)) || !untouched(ins, roomy(inputs)) {
		t.Errorf("%v, %v or %v was changed to %v, %v and %v", original, state, inputs, n, st, ins)
	}
}

func TestRunMemory(t *testing.T) {
	pick := picker(95)
	for cycles := range 36 {
		n := someNet(pick(21), pick(13), pick(20), pick(17), 1+pick(3), pick)
		ins := someCycles(cycles/2, pick)
		checkOwnRun(t, n, someStates(n, pick), ins)
		checkOwnRun(t, n, append(someStates(n, pick), 0), ins)
		n.Outs = append(n.Outs, -1)
		checkOwnRun(t, n, someStates(n, pick), ins)
	}
	for _, n := range []impl.Net{{}, {Inputs: math.MinInt64}, {Ands: gates(-1, 5)}, {Seqs: []impl.Seq{{Kind: 3}}}, impl.SampleNet()} {
		for _, st := range [][]int{nil, {}, {1}, {-1}, {1, 2}} {
			checkOwnRun(t, n, st, []int{1, 2})
		}
	}
	// Parts of one argument, and two arguments, may share memory; a result has its own.
	same := []int{1, 0, 1, 1}
	n := impl.Net{Seqs: []impl.Seq{{Kind: impl.SeqRam, Init: 3, In: same}, {Kind: impl.SeqRam, In: same}, flop(0, 1), flop(1, 0)}, Outs: same}
	next, _ := impl.NetStep(n, same, 1)
	if sharesMemory(same, next, impl.NetStart(n), impl.NodeValues(n, same, 1), impl.NetRun(n, same)) {
		t.Error("results share memory where the arguments do")
	}
	if !slices.Equal(same, []int{1, 0, 1, 1}) || !slices.Equal(next, []int{4, 4, 1, 0}) {
		t.Error("the argument is", same, "and the next state is", next)
	}
}
