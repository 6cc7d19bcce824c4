package tests

import (
	"math"
	"slices"
	"testing"

	"loop.example/g03311/impl"
)

// inside reports whether a cube contains an index, compared input by input.
func inside(n int, c impl.Cube, index int) bool {
	for k := range n {
		if c.Care>>k&1 == 1 && c.Value>>k&1 != index>>k&1 {
			return false
		}
	}
	return true
}

// cubeTable returns the table of a valid cube.
func cubeTable(n int, c impl.Cube) impl.Table {
	return tableOf(n, func(i int) bool { return inside(n, c, i) })
}

// allCubes returns the valid cubes for n inputs, ordered by Care and then by Value. Each input is
// free, 0 or 1 in them.
func allCubes(n int) []impl.Cube {
	list := []impl.Cube{{}}
	for k := range n {
		for _, c := range slices.Clone(list) {
			list = append(list, impl.Cube{Care: c.Care + 1<<k, Value: c.Value}, impl.Cube{Care: c.Care + 1<<k, Value: c.Value + 1<<k})
		}
	}
	slices.SortFunc(list, func(a, b impl.Cube) int {
		if a.Care != b.Care {
			return a.Care - b.Care
		}
		return a.Value - b.Value
	})
	return list
}

// invalidCubes returns cubes that are not valid for n inputs (0 to 4).
func invalidCubes(n int) []impl.Cube {
	size := 1 << n
	list := []impl.Cube{
		{Care: size}, {Care: size, Value: size}, {Care: size - 1, Value: size}, {Care: 2*size - 1, Value: 0},
		{Care: 0, Value: 1}, {Care: size - 1, Value: 2*size - 1}, {Care: 16}, {Care: 31}, {Care: 1 << 32},
	}
	for k := range n {
		list = append(list, impl.Cube{Care: size - 1 - 1<<k, Value: 1 << k}, impl.Cube{Care: 0, Value: 1 << k})
	}
	for _, bad := range []int{-1, -2, -16, math.MinInt64, math.MinInt64 + 1, math.MaxInt64} {
		list = append(list, impl.Cube{Care: bad}, impl.Cube{Care: bad, Value: bad}, impl.Cube{Value: bad}, impl.Cube{Care: size - 1, Value: bad})
	}
	return list
}

// notCounts returns numbers that are no number of inputs of a table.
func notCounts() []int {
	return []int{-1, -2, -64, 5, 6, 31, 32, 63, 64, 1 << 32, math.MinInt64, math.MinInt64 + 1, math.MaxInt64}
}

// repeated returns a cover with the given number of equal cubes.
func repeated(c impl.Cube, count int) []impl.Cube {
	return slices.Repeat([]impl.Cube{c}, count)
}

func TestCoverLimit(t *testing.T) {
	if impl.MaxCubes != 81 {
		t.Error("MaxCubes =", impl.MaxCubes)
	}
}

func TestCubeOk(t *testing.T) {
	for n := range 5 {
		for care := -3; care <= 40; care++ {
			for value := -3; value <= 40; value++ {
				c := impl.Cube{Care: care, Value: value}
				if got, want := impl.CubeOk(n, c), slices.Contains(allCubes(n), c); got != want {
					t.Errorf("CubeOk(%d, %v) = %v", n, c, got)
				}
			}
		}
	}
}

// checkInvalidCube checks that neither a cube for n inputs nor a cover with it is accepted.
func checkInvalidCube(t *testing.T, n int, c impl.Cube) {
	t.Helper()
	if impl.CubeOk(n, c) {
		t.Errorf("CubeOk(%d, %v)", n, c)
	}
	for _, index := range []int{0, 1, 2, 15, 16, c.Value, c.Care, -1, math.MinInt64, math.MaxInt64} {
		if impl.CubeHas(n, c, index) {
			t.Errorf("CubeHas(%d, %v, %d)", n, c, index)
		}
	}
	checkInvalidCover(t, n, []impl.Cube{c})
}

// checkInvalidCover checks that a cover for n inputs is not accepted.
func checkInvalidCover(t *testing.T, n int, cubes []impl.Cube) {
	t.Helper()
	if got := impl.CoverTable(n, cubes); got != (impl.Table{}) {
		t.Errorf("CoverTable(%d, %v) = %v", n, cubes, got)
	}
	if got := impl.CoverLiterals(n, cubes); got != -1 {
		t.Errorf("CoverLiterals(%d, %v) = %d", n, cubes, got)
	}
}

func TestCubeInvalid(t *testing.T) {
	for n := range 5 {
		for _, c := range invalidCubes(n) {
			checkInvalidCube(t, n, c)
		}
	}
	for _, n := range notCounts() {
		for _, c := range append(allCubes(4), invalidCubes(4)...) {
			checkInvalidCube(t, n, c)
		}
	}
}

func TestCubeHas(t *testing.T) {
	for n := range 5 {
		for _, c := range allCubes(n) {
			for index := range 1 << n {
				if impl.CubeHas(n, c, index) != inside(n, c, index) {
					t.Errorf("CubeHas(%d, %v, %d) is wrong", n, c, index)
				}
			}
		}
	}
}

func TestCubeHasWithoutIndex(t *testing.T) {
	for n := range 5 {
		bad := []int{1 << n, 1<<n + 1, 1<<(n+1) - 1, 16, 17, 31, 32, 63, 64, 1 << 32, -1, -2, -1 << n, math.MinInt64, math.MaxInt64}
		for _, c := range allCubes(n) {
			for _, index := range bad {
				if impl.CubeHas(n, c, index) {
					t.Errorf("CubeHas(%d, %v, %d)", n, c, index)
				}
			}
		}
	}
}

func TestCoverTableOfOneCube(t *testing.T) {
	for n := range 5 {
		for _, c := range allCubes(n) {
			if got, want := impl.CoverTable(n, []impl.Cube{c}), cubeTable(n, c); got != want {
				t.Errorf("CoverTable(%d, [%v]) = %v, want %v", n, c, got, want)
			}
		}
	}
}

func TestCoverTableOfTwoCubes(t *testing.T) {
	for n := range 5 {
		for _, a := range allCubes(n) {
			for _, b := range allCubes(n) {
				want := tableOf(n, func(i int) bool { return inside(n, a, i) || inside(n, b, i) })
				if got := impl.CoverTable(n, []impl.Cube{a, b}); got != want {
					t.Fatalf("CoverTable(%d, [%v %v]) = %v, want %v", n, a, b, got, want)
				}
			}
		}
	}
}

func TestCoverTableValues(t *testing.T) {
	cases := []struct {
		n     int
		cubes []impl.Cube
		want  int
	}{
		{0, []impl.Cube{{}}, 1},
		{1, []impl.Cube{{}}, 3},
		{2, []impl.Cube{{Care: 1, Value: 1}}, 10},
		{2, []impl.Cube{{Care: 3, Value: 1}, {Care: 3, Value: 2}}, 6},
		{3, []impl.Cube{{Care: 7, Value: 7}, {Care: 7}, {Care: 5, Value: 4}}, 0xd1},
		{4, []impl.Cube{{Care: 8, Value: 8}, {Care: 7}}, 0xff01},
		{4, []impl.Cube{{}, {Care: 15, Value: 15}, {}}, 0xffff},
	}
	for _, c := range cases {
		if got := impl.CoverTable(c.n, c.cubes); got != (impl.Table{N: c.n, Bits: c.want}) {
			t.Errorf("CoverTable(%d, %v) = %v, want Bits %d", c.n, c.cubes, got, c.want)
		}
	}
}

func TestEmptyCover(t *testing.T) {
	for n := range 5 {
		for _, cubes := range [][]impl.Cube{nil, {}} {
			if got := impl.CoverTable(n, cubes); got != (impl.Table{N: n}) {
				t.Errorf("CoverTable(%d, []) = %v", n, got)
			}
			if got := impl.CoverLiterals(n, cubes); got != 0 {
				t.Errorf("CoverLiterals(%d, []) = %d", n, got)
			}
		}
	}
	for _, n := range notCounts() {
		checkInvalidCover(t, n, nil)
		checkInvalidCover(t, n, []impl.Cube{})
	}
}

func TestCoverWithMostCubes(t *testing.T) {
	for n := range 5 {
		for _, c := range []impl.Cube{{}, {Care: 1<<n - 1}, {Care: 1<<n - 1, Value: 1<<n - 1}} {
			most := repeated(c, impl.MaxCubes)
			if got, want := impl.CoverTable(n, most), cubeTable(n, c); got != want {
				t.Errorf("CoverTable(%d, 81 times %v) = %v, want %v", n, c, got, want)
			}
			want := 0
			if c.Care > 0 {
				want = n * impl.MaxCubes
			}
			if got := impl.CoverLiterals(n, most); got != want {
				t.Errorf("CoverLiterals(%d, 81 times %v) = %d, want %d", n, c, got, want)
			}
			checkInvalidCover(t, n, append(most, c))
			checkInvalidCover(t, n, repeated(c, 1000))
		}
	}
	all := allCubes(4)
	if got := impl.CoverTable(4, all); len(all) != impl.MaxCubes || got != (impl.Table{N: 4, Bits: 65535}) {
		t.Errorf("CoverTable of all %d cubes is %v", len(all), got)
	}
	// Each input is a literal in 54 of the 81 cubes.
	if got := impl.CoverLiterals(4, all); got != 4*54 {
		t.Error("CoverLiterals of all cubes is", got)
	}
	checkInvalidCover(t, 4, append(all, impl.Cube{}))
}

func TestCoverWithOneInvalidCube(t *testing.T) {
	for n := range 5 {
		for _, bad := range invalidCubes(n) {
			for place := range 4 {
				checkInvalidCover(t, n, slices.Insert(repeated(impl.Cube{}, 3), place, bad))
			}
			checkInvalidCover(t, n, append(repeated(impl.Cube{}, impl.MaxCubes-1), bad))
			checkInvalidCover(t, n, append(repeated(impl.Cube{}, impl.MaxCubes), bad))
		}
	}
}

func TestCoverLiterals(t *testing.T) {
	for n := range 5 {
		total := 0
		var cubes []impl.Cube
		for _, c := range allCubes(n) {
			literals := 0
			for k := range n {
				literals += c.Care >> k & 1
			}
			if got := impl.CoverLiterals(n, []impl.Cube{c}); got != literals {
				t.Errorf("CoverLiterals(%d, [%v]) = %d, want %d", n, c, got, literals)
			}
			total += literals
			cubes = append(cubes, c)
			if got := impl.CoverLiterals(n, cubes); got != total {
				t.Errorf("CoverLiterals(%d, %v) = %d, want %d", n, cubes, got, total)
			}
		}
	}
}

func TestCoverArgumentsStay(t *testing.T) {
	for _, length := range []int{0, 3, impl.MaxCubes, impl.MaxCubes + 1} {
		backing := append(allCubes(4), impl.Cube{Care: -7, Value: 99}, impl.Cube{Care: 5, Value: 5})
		before := slices.Clone(backing)
		impl.CoverTable(4, backing[:length])
		impl.CoverLiterals(4, backing[:length])
		if !slices.Equal(backing, before) {
			t.Errorf("a cover of %d cubes or what is behind it was changed", length)
		}
	}
}

// primes returns the prime implicants of a valid table by their definition; cubes are the valid
// ones and tables the tables of them.
func primes(table impl.Table, cubes []impl.Cube, tables []impl.Table) []impl.Cube {
	var implicants []int
	for i := range cubes {
		if tables[i].Bits&^table.Bits == 0 {
			implicants = append(implicants, i)
		}
	}
	var list []impl.Cube
	for _, i := range implicants {
		contained := func(j int) bool { return j != i && tables[i].Bits&^tables[j].Bits == 0 }
		if !slices.ContainsFunc(implicants, contained) {
			list = append(list, cubes[i])
		}
	}
	return list
}

// cubesByCount returns the valid cubes for each number of inputs, and their tables.
func cubesByCount() (cubes [5][]impl.Cube, tables [5][]impl.Table) {
	for n := range 5 {
		cubes[n] = allCubes(n)
		for _, c := range cubes[n] {
			tables[n] = append(tables[n], cubeTable(n, c))
		}
	}
	return cubes, tables
}

func TestPrimeCubes(t *testing.T) {
	cubes, tables := cubesByCount()
	for _, table := range allTables() {
		want := primes(table, cubes[table.N], tables[table.N])
		if got := impl.PrimeCubes(table); !slices.Equal(got, want) {
			t.Fatalf("PrimeCubes(%v) = %v, want %v", table, got, want)
		}
	}
}

// coverCases are tables with their prime implicants and those that remain in the minimal cover.
var coverCases = []struct {
	table          impl.Table
	primes, remain []impl.Cube
}{
	{impl.Table{}, nil, nil},
	{impl.Table{N: 0, Bits: 1}, []impl.Cube{{}}, []impl.Cube{{}}},
	{impl.Table{N: 1, Bits: 1}, []impl.Cube{{Care: 1}}, []impl.Cube{{Care: 1}}},
	{impl.Table{N: 2}, nil, nil},
	{impl.Table{N: 2, Bits: 15}, []impl.Cube{{}}, []impl.Cube{{}}},
	{impl.Table{N: 2, Bits: 6}, []impl.Cube{{Care: 3, Value: 1}, {Care: 3, Value: 2}}, []impl.Cube{{Care: 3, Value: 1}, {Care: 3, Value: 2}}},
	{impl.Table{N: 2, Bits: 14}, []impl.Cube{{Care: 1, Value: 1}, {Care: 2, Value: 2}}, []impl.Cube{{Care: 1, Value: 1}, {Care: 2, Value: 2}}},
	// Input 0 selects between inputs 1 and 2; the cube of both of them is not needed.
	{impl.Table{N: 3, Bits: 0xd8}, []impl.Cube{{Care: 3, Value: 3}, {Care: 5, Value: 4}, {Care: 6, Value: 6}}, []impl.Cube{{Care: 3, Value: 3}, {Care: 5, Value: 4}}},
	// Each index is in two of the six prime implicants.
	{
		impl.Table{N: 3, Bits: 0x7e},
		[]impl.Cube{{Care: 3, Value: 1}, {Care: 3, Value: 2}, {Care: 5, Value: 1}, {Care: 5, Value: 4}, {Care: 6, Value: 2}, {Care: 6, Value: 4}},
		[]impl.Cube{{Care: 3, Value: 1}, {Care: 3, Value: 2}, {Care: 5, Value: 1}, {Care: 5, Value: 4}},
	},
	{impl.Table{N: 4}, nil, nil},
	{impl.Table{N: 4, Bits: 65535}, []impl.Cube{{}}, []impl.Cube{{}}},
	{impl.Table{N: 4, Bits: 0x8000}, []impl.Cube{{Care: 15, Value: 15}}, []impl.Cube{{Care: 15, Value: 15}}},
	{impl.Table{N: 4, Bits: 0x7fff}, []impl.Cube{{Care: 1}, {Care: 2}, {Care: 4}, {Care: 8}}, []impl.Cube{{Care: 1}, {Care: 2}, {Care: 4}, {Care: 8}}},
	{impl.Table{N: 4, Bits: 1}, []impl.Cube{{Care: 15}}, []impl.Cube{{Care: 15}}},
}

func TestCoverCases(t *testing.T) {
	for _, c := range coverCases {
		if got := impl.PrimeCubes(c.table); !slices.Equal(got, c.primes) {
			t.Errorf("PrimeCubes(%v) = %v, want %v", c.table, got, c.primes)
		}
		if got := impl.MinimalCover(c.table); !slices.Equal(got, c.remain) {
			t.Errorf("MinimalCover(%v) = %v, want %v", c.table, got, c.remain)
		}
	}
}

func TestParityHasOneCubeForEachIndex(t *testing.T) {
	for n := range 5 {
		var want []impl.Cube
		parity := tableOf(n, func(i int) bool {
			odd := i>>3&1 != i>>2&1 != (i>>1&1 != i&1)
			if odd {
				want = append(want, impl.Cube{Care: 1<<n - 1, Value: i})
			}
			return odd
		})
		if got := impl.PrimeCubes(parity); !slices.Equal(got, want) {
			t.Errorf("PrimeCubes(%v) = %v, want %v", parity, got, want)
		}
		if got := impl.MinimalCover(parity); !slices.Equal(got, want) {
			t.Errorf("MinimalCover(%v) = %v, want %v", parity, got, want)
		}
	}
}

// union returns the Bits of a cover without the cube at index skip; -1 skips none.
func union(n int, cubes []impl.Cube, skip int) int {
	covered := 0
	for i, c := range cubes {
		if i != skip {
			covered |= cubeTable(n, c).Bits
		}
	}
	return covered
}

// reduced returns a list of cubes without those that are not needed, considered in the given
// order of their indexes.
func reduced(table impl.Table, cubes []impl.Cube, order []int) []impl.Cube {
	removed := make([]bool, len(cubes))
	kept := func() []impl.Cube {
		var list []impl.Cube
		for i, c := range cubes {
			if !removed[i] {
				list = append(list, c)
			}
		}
		return list
	}
	for _, i := range order {
		removed[i] = true
		if union(table.N, kept(), -1) != table.Bits {
			removed[i] = false
		}
	}
	return kept()
}

// upTo returns the numbers from 0 to n-1.
func upTo(n int) []int {
	list := make([]int, n)
	for i := range list {
		list[i] = i
	}
	return list
}

// lastToFirst returns the numbers from n-1 to 0.
func lastToFirst(n int) []int {
	list := upTo(n)
	slices.Reverse(list)
	return list
}

func TestMinimalCover(t *testing.T) {
	cubes, tables := cubesByCount()
	for _, table := range allTables() {
		all := primes(table, cubes[table.N], tables[table.N])
		want := reduced(table, all, lastToFirst(len(all)))
		if got := impl.MinimalCover(table); !slices.Equal(got, want) {
			t.Fatalf("MinimalCover(%v) = %v, want %v", table, got, want)
		}
	}
}

func TestMinimalCoverOrderDecides(t *testing.T) {
	table := impl.Table{N: 3, Bits: 0x7e}
	all := impl.PrimeCubes(table)
	fromLast := reduced(table, all, lastToFirst(len(all)))
	fromFirst := reduced(table, all, upTo(len(all)))
	if slices.Equal(fromLast, fromFirst) {
		t.Fatal("the order does not matter for this table")
	}
	if got := impl.MinimalCover(table); !slices.Equal(got, fromLast) {
		t.Errorf("MinimalCover(%v) = %v, want %v", table, got, fromLast)
	}
}

func TestMinimalCoverIsMinimal(t *testing.T) {
	for _, table := range allTables() {
		cover := impl.MinimalCover(table)
		if got := impl.CoverTable(table.N, cover); got != table || union(table.N, cover, -1) != table.Bits {
			t.Fatalf("MinimalCover(%v) = %v has the table %v", table, cover, got)
		}
		for i, c := range cover {
			if !slices.Contains(impl.PrimeCubes(table), c) {
				t.Fatalf("MinimalCover(%v) = %v: %v is not prime", table, cover, c)
			}
			if union(table.N, cover, i) == table.Bits {
				t.Fatalf("MinimalCover(%v) = %v does not need %v", table, cover, c)
			}
			for k := range table.N {
				wider := impl.Cube{Care: c.Care &^ (1 << k), Value: c.Value &^ (1 << k)}
				if wider != c && cubeTable(table.N, wider).Bits&^table.Bits == 0 {
					t.Fatalf("MinimalCover(%v) = %v: %v does not need input %d", table, cover, c, k)
				}
			}
		}
	}
}

func TestCoversOfInvalidTables(t *testing.T) {
	for _, table := range invalidTables() {
		if got := impl.PrimeCubes(table); got != nil {
			t.Errorf("PrimeCubes(%v) = %v", table, got)
		}
		if got := impl.MinimalCover(table); got != nil {
			t.Errorf("MinimalCover(%v) = %v", table, got)
		}
	}
}

func TestCoverResultsAreNew(t *testing.T) {
	for _, c := range coverCases {
		results := [][]impl.Cube{
			impl.PrimeCubes(c.table), impl.PrimeCubes(c.table), impl.MinimalCover(c.table), impl.MinimalCover(c.table),
		}
		for i, result := range results {
			want := c.primes
			if i >= 2 {
				want = c.remain
			}
			if !slices.Equal(result, want) {
				t.Errorf("result %d for %v shares memory with another one", i, c.table)
			}
			clear(result[:cap(result)])
		}
		if !slices.Equal(impl.PrimeCubes(c.table), c.primes) || !slices.Equal(impl.MinimalCover(c.table), c.remain) {
			t.Error("a result of an earlier call is kept for", c.table)
		}
	}
}
