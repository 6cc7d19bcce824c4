package tests

import (
	"math"
	"slices"
	"testing"

	"loop.example/g03311/impl"
)

// values returns the value of a valid table at each index, read directly from its bits.
func values(t impl.Table) []bool {
	list := make([]bool, 1<<t.N)
	for i := range list {
		list[i] = t.Bits>>i&1 == 1
	}
	return list
}

// tableOf returns the table with n inputs and the given value at each index.
func tableOf(n int, value func(index int) bool) impl.Table {
	table := impl.Table{N: n}
	for i := range 1 << n {
		if value(i) {
			table.Bits += 1 << i
		}
	}
	return table
}

// smallTables returns all tables with at most three inputs.
func smallTables() []impl.Table {
	var list []impl.Table
	for n := range 4 {
		for bits := range 1 << (1 << n) {
			list = append(list, impl.Table{N: n, Bits: bits})
		}
	}
	return list
}

// allTables returns every valid table.
func allTables() []impl.Table {
	list := smallTables()
	for bits := range 1 << 16 {
		list = append(list, impl.Table{N: 4, Bits: bits})
	}
	return list
}

// someTables returns all tables with at most two inputs and a few with three and four.
func someTables() []impl.Table {
	var list []impl.Table
	for i, table := range allTables() {
		if table.N <= 2 || i%1009 == 0 {
			list = append(list, table)
		}
	}
	return append(list, impl.Table{N: 3, Bits: 255}, impl.Table{N: 4}, impl.Table{N: 4, Bits: 65535}, impl.Table{N: 4, Bits: 0x8000})
}

// invalidTables returns tables with N or Bits outside their ranges.
func invalidTables() []impl.Table {
	list := []impl.Table{
		{N: 0, Bits: 2}, {N: 1, Bits: 4}, {N: 2, Bits: 16}, {N: 3, Bits: 256}, {N: 4, Bits: 65536},
		{N: 0, Bits: 3}, {N: 1, Bits: 7}, {N: 2, Bits: 255}, {N: 3, Bits: 65535}, {N: 4, Bits: 1 << 32},
	}
	for _, n := range []int{-1, -2, -64, 5, 6, 63, 64, 1000, math.MinInt64, math.MinInt64 + 1, math.MaxInt64} {
		for _, bits := range []int{0, 1, 2, 65535, -1, math.MaxInt64, math.MinInt64} {
			list = append(list, impl.Table{N: n, Bits: bits})
		}
	}
	for n := range 5 {
		for _, bits := range []int{-1, -2, math.MinInt64, math.MaxInt64, 1 << 62, 1<<63 - 2} {
			list = append(list, impl.Table{N: n, Bits: bits})
		}
	}
	return list
}

// notInputs returns numbers that are no input of a table with n inputs.
func notInputs(n int) []int {
	return []int{n, n + 1, 4, 5, 63, 64, 1 << 32, -1, -2, -64, math.MinInt64, math.MinInt64 + 1, math.MaxInt64}
}

func TestTableLimit(t *testing.T) {
	if impl.MaxTableInputs != 4 {
		t.Error("MaxTableInputs =", impl.MaxTableInputs)
	}
}

func TestTableOk(t *testing.T) {
	for _, table := range allTables() {
		if !impl.TableOk(table) {
			t.Fatal("TableOk rejects", table)
		}
	}
	for _, table := range invalidTables() {
		if impl.TableOk(table) {
			t.Error("TableOk accepts", table)
		}
	}
}

func TestTableEvalReadsEachBit(t *testing.T) {
	for _, table := range allTables() {
		for i, want := range values(table) {
			if impl.TableEval(table, i) != want {
				t.Fatalf("TableEval(%v, %d) is not %v", table, i, want)
			}
		}
	}
}

func TestTableEvalInvalid(t *testing.T) {
	for n := range 5 {
		ones := tableOf(n, func(int) bool { return true })
		for _, i := range []int{1 << n, 1<<n + 1, 16, 17, 63, 64, -1, -2, -16, math.MinInt64, math.MaxInt64} {
			if impl.TableEval(ones, i) {
				t.Errorf("TableEval(%v, %d) is true", ones, i)
			}
		}
	}
	for _, table := range invalidTables() {
		for _, i := range []int{0, 1, 2, 3, 15, 16, 63, -1, math.MinInt64, math.MaxInt64} {
			if impl.TableEval(table, i) {
				t.Errorf("TableEval(%v, %d) is true", table, i)
			}
		}
	}
}

func TestTableVar(t *testing.T) {
	if got, ok := impl.TableVar(2, 1); got != (impl.Table{N: 2, Bits: 12}) || !ok {
		t.Error("TableVar(2, 1) =", got, ok)
	}
	for n := range 5 {
		for k := range n {
			want := tableOf(n, func(i int) bool { return i>>k&1 == 1 })
			if got, ok := impl.TableVar(n, k); got != want || !ok {
				t.Errorf("TableVar(%d, %d) = %v, %v", n, k, got, ok)
			}
		}
	}
}

func TestTableVarInvalid(t *testing.T) {
	check := func(n, k int) {
		if got, ok := impl.TableVar(n, k); got != (impl.Table{}) || ok {
			t.Errorf("TableVar(%d, %d) = %v, %v, want the zero Table, false", n, k, got, ok)
		}
	}
	for n := range 5 {
		for _, k := range notInputs(n) {
			check(n, k)
		}
	}
	for _, n := range []int{-1, -2, 5, 6, 64, math.MinInt64, math.MaxInt64} {
		for _, k := range []int{0, 1, 3, 4, -1, -3, n - 1, math.MinInt64, math.MaxInt64} {
			check(n, k)
		}
	}
}

func TestTableNot(t *testing.T) {
	for _, table := range allTables() {
		list := values(table)
		want := tableOf(table.N, func(i int) bool { return !list[i] })
		if got := impl.TableNot(table); got != want || impl.TableNot(got) != table {
			t.Fatalf("TableNot(%v) = %v, want %v", table, got, want)
		}
	}
	for _, table := range invalidTables() {
		if got := impl.TableNot(table); got != (impl.Table{}) {
			t.Errorf("TableNot(%v) = %v", table, got)
		}
	}
}

func TestTableAndXor(t *testing.T) {
	for _, a := range someTables() {
		for _, b := range someTables() {
			if a.N != b.N {
				continue
			}
			left, right := values(a), values(b)
			if got, want := impl.TableAnd(a, b), tableOf(a.N, func(i int) bool { return left[i] && right[i] }); got != want {
				t.Fatalf("TableAnd(%v, %v) = %v, want %v", a, b, got, want)
			}
			if got, want := impl.TableXor(a, b), tableOf(a.N, func(i int) bool { return left[i] != right[i] }); got != want {
				t.Fatalf("TableXor(%v, %v) = %v, want %v", a, b, got, want)
			}
		}
	}
}

func TestTableAndXorInvalid(t *testing.T) {
	check := func(a, b impl.Table) {
		if got := impl.TableAnd(a, b); got != (impl.Table{}) {
			t.Errorf("TableAnd(%v, %v) = %v", a, b, got)
		}
		if got := impl.TableXor(a, b); got != (impl.Table{}) {
			t.Errorf("TableXor(%v, %v) = %v", a, b, got)
		}
	}
	for n := range 5 {
		for m := range 5 {
			if n != m {
				check(impl.Table{N: n, Bits: 1}, impl.Table{N: m, Bits: 1})
				check(impl.Table{N: n}, impl.Table{N: m, Bits: 1})
			}
		}
	}
	for _, bad := range invalidTables() {
		for _, good := range []impl.Table{{N: 0, Bits: 1}, {N: 4, Bits: 65535}, {N: max(0, min(bad.N, 4)), Bits: 1}} {
			check(bad, good)
			check(good, bad)
		}
		check(bad, bad)
	}
}

func TestTableCofactor(t *testing.T) {
	if got := impl.TableCofactor(impl.Table{N: 2, Bits: 8}, 0, true); got != (impl.Table{N: 2, Bits: 12}) {
		t.Error("the cofactor of AND for input 0 is", got)
	}
	for _, table := range allTables() {
		list := values(table)
		for k := range table.N {
			low := tableOf(table.N, func(i int) bool { return list[i&^(1<<k)] })
			high := tableOf(table.N, func(i int) bool { return list[i|1<<k] })
			if got := impl.TableCofactor(table, k, false); got != low {
				t.Fatalf("TableCofactor(%v, %d, false) = %v, want %v", table, k, got, low)
			}
			if got := impl.TableCofactor(table, k, true); got != high {
				t.Fatalf("TableCofactor(%v, %d, true) = %v, want %v", table, k, got, high)
			}
		}
	}
}

func TestTableCofactorInvalid(t *testing.T) {
	check := func(table impl.Table, k int) {
		for _, value := range []bool{false, true} {
			if got := impl.TableCofactor(table, k, value); got != (impl.Table{}) {
				t.Errorf("TableCofactor(%v, %d, %v) = %v", table, k, value, got)
			}
		}
		if impl.TableDepends(table, k) {
			t.Errorf("TableDepends(%v, %d)", table, k)
		}
	}
	for n := range 5 {
		for _, k := range notInputs(n) {
			check(tableOf(n, func(i int) bool { return i&1 == 1 }), k)
			check(tableOf(n, func(int) bool { return true }), k)
		}
	}
	for _, table := range invalidTables() {
		for _, k := range append(notInputs(4), 0, 1, 2, 3) {
			check(table, k)
		}
	}
}

func TestTableIsRebuiltFromItsCofactors(t *testing.T) {
	for _, table := range allTables() {
		for k := range table.N {
			input, _ := impl.TableVar(table.N, k)
			high := impl.TableAnd(input, impl.TableCofactor(table, k, true))
			low := impl.TableAnd(impl.TableNot(input), impl.TableCofactor(table, k, false))
			if got := impl.TableXor(high, low); got != table {
				t.Fatalf("%v is rebuilt from its cofactors for input %d as %v", table, k, got)
			}
		}
	}
}

// support returns the inputs that change the value of a valid table at some index.
func support(table impl.Table) []int {
	list := values(table)
	var inputs []int
	for k := range table.N {
		changes := false
		for i := range list {
			changes = changes || list[i] != list[i^1<<k]
		}
		if changes {
			inputs = append(inputs, k)
		}
	}
	return inputs
}

func TestTableSupport(t *testing.T) {
	for _, table := range allTables() {
		want := support(table)
		if got := impl.TableSupport(table); !slices.Equal(got, want) {
			t.Fatalf("TableSupport(%v) = %v, want %v", table, got, want)
		}
		for k := range table.N {
			if impl.TableDepends(table, k) != slices.Contains(want, k) {
				t.Fatalf("TableDepends(%v, %d) is wrong", table, k)
			}
		}
	}
	for _, table := range invalidTables() {
		if got := impl.TableSupport(table); got != nil {
			t.Errorf("TableSupport(%v) = %v", table, got)
		}
	}
}

func TestTableShrinkValues(t *testing.T) {
	cases := []struct {
		in, want impl.Table
		inputs   []int
	}{
		{impl.Table{N: 2, Bits: 12}, impl.Table{N: 1, Bits: 2}, []int{1}},
		{impl.Table{N: 2, Bits: 3}, impl.Table{N: 1, Bits: 1}, []int{1}},
		{impl.Table{}, impl.Table{}, nil},
		{impl.Table{N: 0, Bits: 1}, impl.Table{N: 0, Bits: 1}, nil},
		{impl.Table{N: 4}, impl.Table{}, nil},
		{impl.Table{N: 4, Bits: 65535}, impl.Table{N: 0, Bits: 1}, nil},
		{impl.Table{N: 4, Bits: 0x8000}, impl.Table{N: 4, Bits: 0x8000}, []int{0, 1, 2, 3}},
		{impl.Table{N: 4, Bits: 0xaa00}, impl.Table{N: 2, Bits: 8}, []int{0, 3}},
		{impl.Table{N: 4, Bits: 0x00f0}, impl.Table{N: 2, Bits: 2}, []int{2, 3}},
		{impl.Table{N: 3, Bits: 0x44}, impl.Table{N: 2, Bits: 4}, []int{0, 1}},
	}
	for _, c := range cases {
		got, inputs := impl.TableShrink(c.in)
		if got != c.want || !slices.Equal(inputs, c.inputs) {
			t.Errorf("TableShrink(%v) = %v, %v, want %v, %v", c.in, got, inputs, c.want, c.inputs)
		}
	}
}

func TestTableShrinkLosesNothing(t *testing.T) {
	for _, table := range allTables() {
		shrunk, inputs := impl.TableShrink(table)
		if !slices.Equal(inputs, support(table)) || shrunk.N != len(inputs) || !impl.TableOk(shrunk) {
			t.Fatalf("TableShrink(%v) = %v, %v", table, shrunk, inputs)
		}
		small := values(shrunk)
		for i, want := range values(table) {
			index := 0
			for j, k := range inputs {
				index += i >> k & 1 << j
			}
			if small[index] != want {
				t.Fatalf("TableShrink(%v) = %v, %v loses the value at %d", table, shrunk, inputs, i)
			}
		}
		if again, all := impl.TableShrink(shrunk); again != shrunk || len(all) != shrunk.N {
			t.Fatalf("TableShrink(%v) = %v, %v, but it depends on all inputs", shrunk, again, all)
		}
	}
}

func TestTableShrinkInvalid(t *testing.T) {
	for _, table := range invalidTables() {
		if got, inputs := impl.TableShrink(table); got != (impl.Table{}) || inputs != nil {
			t.Errorf("TableShrink(%v) = %v, %v", table, got, inputs)
		}
	}
}

func TestTableResultsAreNew(t *testing.T) {
	table := impl.Table{N: 4, Bits: 0x8000}
	first := impl.TableSupport(table)
	_, second := impl.TableShrink(table)
	clear(first)
	clear(second)
	_, inputs := impl.TableShrink(table)
	if want := []int{0, 1, 2, 3}; !slices.Equal(impl.TableSupport(table), want) || !slices.Equal(inputs, want) {
		t.Error("a result of an earlier call is kept")
	}
}
