package tests

import (
	"fmt"
	"math"
	"reflect"
	"regexp"
	"runtime"
	"slices"
	"strconv"
	"strings"
	"testing"
	"time"

	"loop.example/g03311/impl"
)

// operatorSigns are the words of the operators from OpNot to OpMux.
func operatorSigns() []string { return []string{"~", "&", "|", "^", "+", "-", "=", "<", "?"} }

// operatorOfWord has all operators that a module can have, by their words; wordOfOperator is the
// same the other way round.
var operatorOfWord, wordOfOperator = operatorWords()

func operatorWords() (map[string]impl.Op, map[impl.Op]string) {
	words := map[string]impl.Op{"W": {Kind: impl.OpParam}}
	for a := range 16 {
		words[fmt.Sprint(a)] = impl.Op{Kind: impl.OpConst, A: a}
	}
	for a := range 30 {
		words[fmt.Sprintf("s%d", a)] = impl.Op{Kind: impl.OpSignal, A: a}
		for b := range 4 {
			words[fmt.Sprintf("s%d.%d", a, b)] = impl.Op{Kind: impl.OpBit, A: a, B: b}
		}
	}
	for i, sign := range operatorSigns() {
		words[sign] = impl.Op{Kind: impl.OpNot + i}
	}
	operators := map[impl.Op]string{}
	for word, o := range words {
		operators[o] = word
	}
	return words, operators
}

func TestOpText(t *testing.T) {
	for _, kind := range append(extremes(), 6, 7, 8, 9, 10, 11) {
		for _, a := range extremes() {
			for _, b := range extremes() {
				o := impl.Op{Kind: kind, A: a, B: b}
				want, is := wordOfOperator[o]
				if text, ok := impl.OpText(o); text != want || ok != is {
					t.Errorf("OpText(%v) = %q, %v, want %q", o, text, ok, want)
				}
			}
		}
	}
}

func TestOpTextOfNamedCases(t *testing.T) {
	cases := map[impl.Op]string{
		{}:                                "0",
		{Kind: impl.OpConst, A: 15}:       "15",
		{Kind: impl.OpParam}:              "W",
		{Kind: impl.OpSignal}:             "s0",
		{Kind: impl.OpSignal, A: 29}:      "s29",
		{Kind: impl.OpBit}:                "s0.0",
		{Kind: impl.OpBit, A: 29, B: 3}:   "s29.3",
		{Kind: impl.OpNot}:                "~",
		{Kind: impl.OpAnd}:                "&",
		{Kind: impl.OpOr}:                 "|",
		{Kind: impl.OpXor}:                "^",
		{Kind: impl.OpAdd}:                "+",
		{Kind: impl.OpSub}:                "-",
		{Kind: impl.OpEqual}:              "=",
		{Kind: impl.OpLess}:               "<",
		{Kind: impl.OpMux}:                "?",
		{Kind: -1}:                        "",
		{Kind: 13}:                        "",
		{Kind: math.MinInt64}:             "",
		{Kind: math.MaxInt64}:             "",
		{Kind: impl.OpConst, A: -1}:       "",
		{Kind: impl.OpConst, A: 16}:       "",
		{Kind: impl.OpConst, B: 1}:        "",
		{Kind: impl.OpParam, A: 1}:        "",
		{Kind: impl.OpParam, B: -1}:       "",
		{Kind: impl.OpSignal, A: -1}:      "",
		{Kind: impl.OpSignal, A: 30}:      "",
		{Kind: impl.OpSignal, A: 3, B: 1}: "",
		{Kind: impl.OpBit, A: 30}:         "",
		{Kind: impl.OpBit, A: 3, B: 4}:    "",
		{Kind: impl.OpBit, A: 3, B: -1}:   "",
		{Kind: impl.OpNot, A: 1}:          "",
		{Kind: impl.OpMux, B: 1}:          "",
	}
	for o, want := range cases {
		if text, ok := impl.OpText(o); text != want || ok != (want != "") {
			t.Errorf("OpText(%v) = %q, %v, want %q", o, text, ok, want)
		}
	}
}

// TestOpTextAgreesWithOpsOk checks that exactly the operators have words that OpsOk accepts in a
// module with as many signals as possible.
func TestOpTextAgreesWithOpsOk(t *testing.T) {
	for kind := -1; kind <= 13; kind++ {
		for a := -1; a <= 31; a++ {
			for b := -1; b <= 5; b++ {
				o := impl.Op{Kind: kind, A: a, B: b}
				ops := append([]impl.Op{o}, make([]impl.Op, max(impl.OpArity(kind), 0))...)
				if _, ok := impl.OpText(o); ok != impl.OpsOk(ops, impl.MaxSignals) {
					t.Errorf("OpText(%v) returns %v", o, ok)
				}
			}
		}
	}
}

func TestOperatorsThereAndBack(t *testing.T) {
	if len(wordOfOperator) != 16+1+30+30*4+9 {
		t.Error("there are", len(wordOfOperator), "operators")
	}
	for o, word := range wordOfOperator {
		if text, ok := impl.OpText(o); text != word || !ok {
			t.Errorf("OpText(%v) = %q, %v", o, text, ok)
		}
		if got, ok := impl.ParseOp(word); got != o || !ok {
			t.Errorf("ParseOp(%q) = %v, %v", word, got, ok)
		}
	}
}

func TestParseOpOfNoOperators(t *testing.T) {
	no := []string{
		"", " ", "\n", "\t", "\x00", "\x7f", "\x80", "é", "1\x00", "s\xff",
		"00", "01", "015", "+1", "-1", "-0", "1 ", " 1", "1.", ".1", "1.0", "0x1", "1_0", "1e0", "16", "20", "100",
		"1000000000", "1000000001", "9223372036854775807", "9223372036854775808", "18446744073709551616", "18446744073709551617",
		"W0", "0W", "WW", "w", "W ", " W", "W.0", "sW", "mW", "s0.W",
		"s", "m", "ss", "ms0", "sm0", "m0", "S0", "s 0", "s0 ", " s0", "0s", "s00", "s01", "s+1", "s-1", "s-0", "s30", "s31", "s100", "ss0",
		"s1000000000", "s18446744073709551616", "s18446744073709551645", "s9223372036854775807", "s-9223372036854775808",
		"s.", ".", "s0.", "s.0", "s0.00", "s00.0", "s0.01", "s0.4", "s0.15", "s30.0", "s29.4", "s0.-1", "s0.+1", "s-1.0", "s0. 1", "s0 .1",
		"s0..0", "s0.0.", "s0.0.0", "0.0", "m0.0", "s0,0", "s0.s0", "s0.18446744073709551616", "s18446744073709551616.0",
		"~~", "~&", "&|", "~&|", "~&|^+-=<?", "?<", "--", "~ ", " ~", "~s0", "s0~", "!", "*", "/", ">", "==", "<=", "%", ":",
		"module", "end", "in", "set", "const",
		strings.Repeat("0", 20001), "s" + strings.Repeat("1", 20000), "s0." + strings.Repeat("3", 700), strings.Repeat("~", 20001), strings.Repeat("s", 20001),
	}
	for _, word := range no {
		if o, ok := impl.ParseOp(word); o != (impl.Op{}) || ok {
			t.Errorf("ParseOp(%.30q) = %v, %v", word, o, ok)
		}
	}
}

// TestParseOpOfShortWords compares ParseOp with the list of all operators for each short word.
func TestParseOpOfShortWords(t *testing.T) {
	var check func(word string)
	check = func(word string) {
		want, is := operatorOfWord[word]
		if o, ok := impl.ParseOp(word); o != want || ok != is {
			t.Errorf("ParseOp(%q) = %v, %v", word, o, ok)
		}
		for _, b := range []byte("0123459s.Wm~?- \n") {
			if len(word) < 4 {
				check(word + string(b))
			}
		}
	}
	check("")
}

// edits calls visit with a text that has one byte removed, changed or added, for each place and
// each of the given bytes.
func edits(text string, bytes []byte, visit func(edited string)) {
	for i := range len(text) + 1 {
		for _, b := range bytes {
			visit(text[:i] + string([]byte{b}) + text[i:])
			if i < len(text) {
				visit(text[:i] + string([]byte{b}) + text[i+1:])
			}
		}
		if i < len(text) {
			visit(text[:i] + text[i+1:])
		}
	}
}

func TestParseOpOfChangedWords(t *testing.T) {
	var bytes []byte
	for b := range 256 {
		bytes = append(bytes, byte(b))
	}
	for word := range operatorOfWord {
		edits(word, bytes, func(edited string) {
			want, is := operatorOfWord[edited]
			if o, ok := impl.ParseOp(edited); o != want || ok != is {
				t.Errorf("ParseOp(%q) = %v, %v", edited, o, ok)
			}
		})
	}
}

// widthWord is how a width or a Param is written.
func widthWord(n int) string {
	if n == 0 {
		return "W"
	}
	return strconv.Itoa(n)
}

// linesOf returns the lines of a valid module.
func linesOf(m impl.Module) []string {
	lines := []string{"module"}
	for _, s := range m.Signals {
		switch width := widthWord(s.Width); s.Kind {
		case 0:
			lines = append(lines, "in "+width)
		case 1:
			lines = append(lines, "out "+width)
		case 2:
			lines = append(lines, "wire "+width)
		case 3:
			lines = append(lines, fmt.Sprintf("reg %s %d", width, s.Init))
		}
	}
	for _, a := range m.Assigns {
		line := []string{"set", fmt.Sprintf("s%d", a.Target)}
		for _, o := range a.Ops {
			line = append(line, wordOfOperator[o])
		}
		lines = append(lines, strings.Join(line, " "))
	}
	for _, inst := range m.Insts {
		line := []string{"use", fmt.Sprintf("m%d", inst.Module), widthWord(inst.Param)}
		for _, port := range inst.Ports {
			line = append(line, fmt.Sprintf("s%d", port))
		}
		lines = append(lines, strings.Join(line, " "))
	}
	for _, mem := range m.Mems {
		lines = append(lines, fmt.Sprintf("mem s%d s%d s%d s%d", mem.Addr, mem.Data, mem.Write, mem.Out))
	}
	return append(lines, "end")
}

// textOf returns the text of a valid design.
func textOf(d impl.Design) string {
	var lines []string
	for _, m := range d.Modules {
		lines = append(lines, linesOf(m)...)
	}
	return strings.Join(lines, "\n") + "\n"
}

// designOk is DesignOk by the functions of the test of Chapter 4.
func designOk(d impl.Design) bool {
	ok := len(d.Modules) > 0
	for k := range d.Modules {
		ok = ok && moduleOk(d, k)
	}
	return ok
}

// sameDesign reports whether two designs are equal; nil and empty lists are.
func sameDesign(a impl.Design, b impl.Design) bool { return untouched(roomy(a), roomy(b)) }

// checkText checks all that is written for a design, and that it is read again.
func checkText(t *testing.T, what string, d impl.Design) {
	t.Helper()
	for k := -1; k <= len(d.Modules); k++ {
		ok := moduleOk(d, k)
		var want []string
		if ok {
			want = linesOf(d.Modules[k])
		}
		if lines, is := impl.FormatModule(d, k); !slices.Equal(lines, want) || is != ok {
			t.Errorf("%s: FormatModule for module %d = %q, %v, want %q", what, k, lines, is, want)
		}
	}
	text, ok := impl.FormatDesign(d)
	if !designOk(d) {
		if text != "" || ok {
			t.Errorf("%s: FormatDesign = %q, %v", what, text, ok)
		}
		return
	}
	if want := textOf(d); text != want || !ok {
		t.Errorf("%s: FormatDesign = %q, %v, want %q", what, text, ok, want)
	}
	if read, ok := impl.ParseDesign(text); !sameDesign(read, d) || !ok {
		t.Errorf("%s: ParseDesign(%q) = %v, %v, want %v", what, text, read, ok, d)
	}
}

const numberForm, widthForm = `(0|[1-9][0-9]{0,8})`, `(W|[1-9][0-9]{0,8})`

// lineForms are the forms of the lines between `module` and `end`, in their order.
var lineForms = []*regexp.Regexp{
	regexp.MustCompile(`^(in|out|wire) ` + widthForm + `$|^reg ` + widthForm + ` ` + numberForm + `$`),
	regexp.MustCompile(`^set s` + numberForm + ` (.*)$`),
	regexp.MustCompile(`^use m` + numberForm + ` ` + widthForm + `((?: s` + numberForm + `)*)$`),
	regexp.MustCompile(`^mem s` + numberForm + ` s` + numberForm + ` s` + numberForm + ` s` + numberForm + `$`),
}

// valueOf returns the number in a word; 0 for `W` and for nothing.
func valueOf(word string) int {
	n, _ := strconv.Atoi(strings.TrimPrefix(word, "s"))
	return n
}

// addTo adds what a line of the given form describes to a module, and reports whether it does.
func addTo(m *impl.Module, form int, parts []string) bool {
	switch form {
	case 0:
		kind := slices.Index([]string{"in", "out", "wire"}, parts[1])
		if kind == -1 {
			kind = 3
		}
		m.Signals = append(m.Signals, impl.Signal{Kind: kind, Width: valueOf(parts[2]) + valueOf(parts[3]), Init: valueOf(parts[4])})
	case 1:
		var ops []impl.Op
		for word := range strings.SplitSeq(parts[2], " ") {
			o, is := operatorOfWord[word]
			if !is {
				return false
			}
			ops = append(ops, o)
		}
		m.Assigns = append(m.Assigns, impl.Assign{Target: valueOf(parts[1]), Ops: ops})
	case 2:
		inst := impl.Inst{Module: valueOf(parts[1]), Param: valueOf(parts[2])}
		for _, port := range strings.Fields(parts[3]) {
			inst.Ports = append(inst.Ports, valueOf(port))
		}
		m.Insts = append(m.Insts, inst)
	case 3:
		m.Mems = append(m.Mems, impl.Mem{Addr: valueOf(parts[1]), Data: valueOf(parts[2]), Write: valueOf(parts[3]), Out: valueOf(parts[4])})
	}
	return true
}

// splitText returns the lines of a text that are not empty, with single spaces.
func splitText(text string) ([]string, bool) {
	var lines []string
	for line := range strings.SplitSeq(text, "\n") {
		fields := strings.FieldsFunc(line, func(r rune) bool { return r == ' ' })
		outside := strings.ContainsFunc(line, func(r rune) bool { return r < 32 || r > 126 })
		if outside || len(line) > 600 || len(fields) > 40 {
			return nil, false
		}
		if len(fields) > 0 {
			lines = append(lines, strings.Join(fields, " "))
		}
	}
	return lines, len(text) <= 20000
}

// described is ParseDesign by the forms of the lines and their order.
func described(text string) (impl.Design, bool) {
	lines, ok := splitText(text)
	if !ok {
		return impl.Design{}, false
	}
	var d impl.Design
	// The form of the last line; there is none outside of modules.
	form := len(lineForms)
	for _, line := range lines {
		switch {
		case line == "module" && form == len(lineForms):
			d.Modules = append(d.Modules, impl.Module{})
			form = 0
		case line == "end" && form < len(lineForms):
			form = len(lineForms)
		default:
			for form < len(lineForms) && !lineForms[form].MatchString(line) {
				form++
			}
			if form == len(lineForms) || !addTo(&d.Modules[len(d.Modules)-1], form, lineForms[form].FindStringSubmatch(line)) {
				return impl.Design{}, false
			}
		}
	}
	if form < len(lineForms) || !designOk(d) {
		return impl.Design{}, false
	}
	return d, true
}

// checkParse compares ParseDesign with described, and reports whether the text describes a design.
func checkParse(t *testing.T, what string, text string) bool {
	t.Helper()
	want, is := described(text)
	d, ok := impl.ParseDesign(text)
	if ok != is || !sameDesign(d, want) {
		t.Errorf("%s: ParseDesign(%.2000q) = %v, %v, want %v, %v", what, text, d, ok, want, is)
	}
	return is
}

// checkNoDesign checks that a text describes no design.
func checkNoDesign(t *testing.T, what string, text string) {
	t.Helper()
	if d, ok := impl.ParseDesign(text); ok || !sameDesign(d, impl.Design{}) {
		t.Errorf("%s: ParseDesign(%.2000q) = %v, %v", what, text, d, ok)
	}
	checkParse(t, what, text)
}

// driverKindsText is the text of the design driverKinds.
const driverKindsText = `module
reg 4 15
in W
out 2
wire 1
in 4
out W
set s2 1
set s0 + s0 s4
set s5 W
mem s1 s4 s3 s3
end
module
end
module
in 1
out W
wire 3
reg 4 9
out 4
wire W
out 2
wire 2
in W
set s1 1
set s2 1
set s3 ? s3.1 s8 W
use m0 W s8 s4 s3 s5
use m1 2
use m0 4 s0 s6 s0 s7
end
`

const sampleText = "module\nin 1\nout W\nreg W 0\nset s2 ? s0 + s2 1 s2\nset s1 s2\nend\n" +
	"module\nin 1\nout W\nuse m0 W s0 s1\nend\n"

func TestFormatDesign(t *testing.T) {
	cases := map[string]impl.Design{
		driverKindsText: driverKinds(),
		sampleText:      impl.SampleDesign(),
		"module\nend\n": {Modules: make([]impl.Module, 1)},
		"module\nout 1\nset s0 1\nend\n" + strings.Repeat("module\nend\n", 3): {Modules: append([]impl.Module{source()}, make([]impl.Module, 3)...)},
		"module\nreg 1 0\nset s0 s0\nend\n": {Modules: []impl.Module{{
			Signals: signalsOfKinds(impl.SigReg), Assigns: []impl.Assign{{Ops: []impl.Op{readSignal(0)}}},
		}}},
		"module\nin W\nwire 2\nmem s0 s1 s0 s1\nend\n": {Modules: []impl.Module{{
			Signals: []impl.Signal{{}, {Kind: impl.SigWire, Width: 2}}, Mems: []impl.Mem{{Addr: 0, Data: 1, Write: 0, Out: 1}},
		}}},
	}
	for want, d := range cases {
		if text, ok := impl.FormatDesign(d); text != want || !ok {
			t.Errorf("FormatDesign(%v) = %q, %v, want %q", d, text, ok, want)
		}
		checkText(t, "a design", d)
		checkParse(t, "a text", want)
	}
}

// eachChange calls visit with a value that has one other number, a list that is shorter, or two
// elements exchanged, for each way to do this.
func eachChange[T any](value T, others []int, visit func(what string, value T)) {
	whole := reflect.ValueOf(&value).Elem()
	parts(whole, reflect.Int, func(number reflect.Value) {
		before := number.Int()
		for _, other := range others {
			number.SetInt(int64(other))
			visit("one number changed", value)
		}
		number.SetInt(before)
	})
	parts(whole, reflect.Slice, func(list reflect.Value) {
		before := list.Interface()
		for length := range list.Len() {
			list.SetLen(length)
			visit("a list made shorter", value)
			list.Set(reflect.ValueOf(before))
		}
		for i := 1; i < list.Len(); i++ {
			reflect.Swapper(before)(i-1, i)
			visit("two elements exchanged", value)
			reflect.Swapper(before)(i-1, i)
		}
	})
}

func TestTextsOfChangedDesigns(t *testing.T) {
	for _, d := range []impl.Design{driverKinds(), impl.SampleDesign()} {
		eachChange(d, append(extremes(), 6, 7, 8, 9, 10, 11), func(what string, d impl.Design) {
			checkText(t, what, d)
		})
	}
}

// wholeExpression returns an operator as a complete expression.
func wholeExpression(o impl.Op) []impl.Op {
	return append([]impl.Op{o}, make([]impl.Op, max(impl.OpArity(o.Kind), 0))...)
}

// TestTextsOfOperators checks designs in which an expression begins with each operator.
func TestTextsOfOperators(t *testing.T) {
	signals := signalsOfKinds(slices.Repeat([]int{impl.SigIn}, 30)...)
	signals[7].Kind = impl.SigOut
	for kind := -1; kind <= 13; kind++ {
		for a := -1; a <= 30; a++ {
			for b := -1; b <= 4; b++ {
				ops := wholeExpression(impl.Op{Kind: kind, A: a, B: b})
				checkText(t, "an operator", impl.Design{Modules: []impl.Module{{
					Signals: signals, Assigns: []impl.Assign{{Target: 7, Ops: ops}},
				}}})
			}
		}
	}
}

// TestTextsOfSignals checks designs with a signal of each kind, width and initial value.
func TestTextsOfSignals(t *testing.T) {
	for _, kind := range extremes() {
		for _, width := range extremes() {
			for _, init := range extremes() {
				for drivers := range 2 {
					checkText(t, "a signal", impl.Design{Modules: []impl.Module{{
						Signals: []impl.Signal{{Kind: kind, Width: width, Init: init}},
						Assigns: []impl.Assign{assign(0)}[:drivers],
					}}})
				}
			}
		}
	}
}

func TestFormatModuleOfWhatDoesNotExist(t *testing.T) {
	for _, d := range []impl.Design{{}, driverKinds(), {Modules: make([]impl.Module, 4)}} {
		for _, k := range extremes() {
			if k >= 0 && k < len(d.Modules) {
				continue
			}
			if lines, ok := impl.FormatModule(d, k); lines != nil || ok {
				t.Errorf("FormatModule for module %d of %d = %q, %v", k, len(d.Modules), lines, ok)
			}
		}
	}
	if text, ok := impl.FormatDesign(impl.Design{}); text != "" || ok {
		t.Errorf("FormatDesign of no modules = %q, %v", text, ok)
	}
}

// TestFormatModuleAlone checks that only the counts of the other modules matter.
func TestFormatModuleAlone(t *testing.T) {
	bad := source()
	bad.Assigns = nil
	for place := range 4 {
		d := impl.Design{Modules: []impl.Module{source(), source(), source(), source()}}
		d.Modules[place] = bad
		checkText(t, "a module without a driver", d)
		for k := range 4 {
			if _, ok := impl.FormatModule(d, k); ok != (k != place) {
				t.Errorf("FormatModule for module %d = %v if module %d is not valid", k, ok, place)
			}
		}
		d.Modules[place] = fullModule(31, 30, 0, 0)
		checkText(t, "too many signals", d)
		for k := range 4 {
			if _, ok := impl.FormatModule(d, k); ok {
				t.Errorf("FormatModule for module %d accepts too many signals in module %d", k, place)
			}
		}
	}
	for count := 1; count <= 6; count++ {
		checkText(t, "many modules", impl.Design{Modules: slices.Repeat([]impl.Module{source()}, count)})
	}
}

func TestTextsOfFullModules(t *testing.T) {
	full := []impl.Module{
		fullModule(30, 30, 0, 0), fullModule(30, 25, 3, 2), fullModule(30, 0, 0, 0), fullModule(5, 0, 3, 2),
		fullModule(31, 30, 0, 0), fullModule(30, 0, 4, 0), fullModule(30, 0, 0, 3), fullModule(32, 31, 1, 0),
	}
	for i, m := range full {
		d := impl.Design{Modules: []impl.Module{source(), m}}
		checkText(t, "a full module", d)
		if _, ok := impl.FormatDesign(d); ok != (i < 4) {
			t.Errorf("FormatDesign for module %d of the list = %v", i, ok)
		}
		// The text of a module that is too large describes no design either.
		if d, ok := impl.ParseDesign(textOf(d)); ok != (i < 4) {
			t.Errorf("ParseDesign for module %d of the list = %v, %v", i, d, ok)
		}
	}
	for _, ops := range append(longExpressions(15), longExpressions(17)...) {
		d := impl.Design{Modules: []impl.Module{source()}}
		d.Modules[0].Assigns[0].Ops = ops
		checkText(t, "a long expression", d)
		checkParse(t, "a long expression", textOf(d))
	}
}

// longLines is a design with lines that are as long as they can be: its last module has instances
// of a module with 30 ports, and the other ones have long expressions.
func longLines() impl.Design {
	var registers, ports, top impl.Module
	// Four muxes, an addition, and ten bits are 15 operators.
	ops := slices.Repeat([]impl.Op{operator(impl.OpMux)}, 4)
	ops = append(ops, operator(impl.OpAdd))
	ops = append(ops, slices.Repeat([]impl.Op{{Kind: impl.OpBit, A: 29, B: 3}}, 10)...)
	for i := range 30 {
		registers.Signals = append(registers.Signals, impl.Signal{Kind: impl.SigReg, Init: 15})
		registers.Assigns = append(registers.Assigns, impl.Assign{Target: i, Ops: ops})
		ports.Signals = append(ports.Signals, impl.Signal{Kind: impl.SigIn})
	}
	top.Signals = registers.Signals
	top.Assigns = registers.Assigns
	for range 3 {
		top.Insts = append(top.Insts, impl.Inst{Module: 2, Ports: slices.Repeat([]int{29}, 30)})
	}
	return impl.Design{Modules: []impl.Module{registers, registers, ports, top}}
}

func TestTextOfLongLines(t *testing.T) {
	d := longLines()
	checkText(t, "long lines", d)
	text, ok := impl.FormatDesign(d)
	if !ok || !strings.Contains(text, "\nset s29 ? ? ? ? +"+strings.Repeat(" s29.3", 10)+"\n") || !strings.Contains(text, "\nuse m2 W"+strings.Repeat(" s29", 30)+"\nend\n") {
		t.Errorf("FormatDesign = %q, %v", text, ok)
	}
}

// TestLengthOfText checks texts of exactly MaxInputLen bytes and of one more.
func TestLengthOfText(t *testing.T) {
	for _, d := range []impl.Design{longLines(), driverKinds(), impl.SampleDesign()} {
		text := textOf(d)
		missing := 20000 - len(text)
		newlines := strings.Repeat("\n", missing)
		spaces := strings.Repeat(" ", missing%601)
		spaces += strings.Repeat("\n"+strings.Repeat(" ", 600), missing/601)
		for _, exact := range []string{text + newlines, newlines + text, text + spaces, spaces[:missing-1] + "\n" + text, strings.Replace(text, "\nend\n", newlines+"\nend\n", 1)} {
			if read, ok := impl.ParseDesign(exact); len(exact) != 20000 || !ok || !sameDesign(read, d) {
				t.Errorf("ParseDesign returns %v, %v for %d bytes", read, ok, len(exact))
			}
			checkParse(t, "20000 bytes", exact)
			checkNoDesign(t, "20001 bytes", exact+"\n")
			checkNoDesign(t, "20001 bytes", "\n"+exact)
			checkNoDesign(t, "20001 bytes", exact[:5]+" "+exact[5:])
			checkNoDesign(t, "40000 bytes", exact+newlines)
		}
	}
	checkNoDesign(t, "20000 newlines", strings.Repeat("\n", 20000))
	checkNoDesign(t, "20001 newlines", strings.Repeat("\n", 20001))
	checkNoDesign(t, "many modules", strings.Repeat("module\nend\n", 1818))
	checkNoDesign(t, "many signals", "module\n"+strings.Repeat("in 1\n", 3997)+"end\n")
	checkNoDesign(t, "many bytes", strings.Repeat(sampleText, 1000))
}

// TestLayoutOfText checks that spaces and empty lines do not matter.
func TestLayoutOfText(t *testing.T) {
	for text, d := range map[string]impl.Design{driverKindsText: driverKinds(), sampleText: impl.SampleDesign()} {
		layouts := []string{
			strings.TrimSuffix(text, "\n"),
			text + "\n",
			text + "   ",
			text + "\n\n  \n\n",
			"\n" + text,
			"  \n \n\n" + text,
			strings.ReplaceAll(text, "\n", "\n\n"),
			strings.ReplaceAll(text, "\n", "\n \n   \n"),
			strings.ReplaceAll(text, "\n", " \n"),
			strings.ReplaceAll(text, "\n", "\n "),
			strings.ReplaceAll(text, "\n", "   \n     "),
			strings.ReplaceAll(text, " ", "  "),
			"   " + strings.ReplaceAll(strings.ReplaceAll(text, " ", "       "), "\n", "  \n\n  "),
		}
		for _, layout := range layouts {
			if read, ok := impl.ParseDesign(layout); !ok || !sameDesign(read, d) {
				t.Errorf("ParseDesign(%q) = %v, %v", layout, read, ok)
			}
			checkParse(t, "another layout", layout)
		}
		for i := range len(text) {
			for _, long := range []string{" ", "\n", strings.Repeat(" ", 10)} {
				checkParse(t, "spaces and newlines", text[:i]+long+text[i:])
			}
		}
	}
}

// TestLinesThatCannotBeSplit checks lines that SplitFields rejects, even if they are empty.
func TestLinesThatCannotBeSplit(t *testing.T) {
	lines := strings.Split(sampleText, "\n")
	for i, line := range lines {
		with := func(other string) string {
			return strings.Join(lines[:i], "\n") + "\n" + other + "\n" + strings.Join(lines[i+1:], "\n")
		}
		for _, pad := range []string{line + strings.Repeat(" ", 600-len(line)), strings.Repeat(" ", 600-len(line)) + line, "\n" + strings.Repeat(" ", 600) + "\n" + line} {
			if d, ok := impl.ParseDesign(with(pad)); !ok || !sameDesign(d, impl.SampleDesign()) {
				t.Errorf("a line of 600 bytes: ParseDesign = %v, %v", d, ok)
			}
			checkParse(t, "a line of 600 bytes", with(pad))
			checkNoDesign(t, "a line of 601 bytes", with(strings.Replace(pad, strings.Repeat(" ", 20), strings.Repeat(" ", 21), 1)))
		}
		for b := range 256 {
			if b >= 32 && b <= 126 || b == '\n' {
				continue
			}
			bad := string([]byte{byte(b)})
			for _, other := range []string{line + bad, bad + line, line + "\n" + bad, bad + "\n" + line, line + "\n  " + bad + "  "} {
				checkNoDesign(t, "a byte that cannot be printed", with(other))
			}
		}
		for _, count := range []int{39, 40, 41} {
			checkNoDesign(t, "many fields", with(strings.Repeat("s0 ", count)))
			checkNoDesign(t, "many fields", with(line+strings.Repeat(" s0", count)))
		}
	}
	checkNoDesign(t, "nothing but a long line", strings.Repeat(" ", 601))
	checkNoDesign(t, "nothing but a long line", sampleText+strings.Repeat(" ", 601))
}

// TestTextsOfNoDesign checks texts that are split into lines, but describe no design.
func TestTextsOfNoDesign(t *testing.T) {
	for _, text := range []string{
		"", " ", "\n", " \n  \n", "module", "end", "module\n", "end\n", "module end", "end\nmodule\n", "Module\nend\n", "module\nEND\n",
		"module\nend\nend\n", "module\nmodule\nend\n", "module\nmodule\nend\nend\n", "module\nend\nmodule\n", "module\nend\nin 1\n",
		"module\nend\nset s0 1\n", "in 1\nmodule\nend\n", "set s0 1\n", "use m0 W\n", "mem s0 s0 s0 s0\n", "x\nmodule\nend\n", "module\nend\nx\n",
		"module\nx\nend\n", "module 0\nend\n", "module\nend 0\n", "module\nend 1\n", "module 1\nend\n", "module W\nend\n",
		strings.Repeat("module\nend\n", 5),
		"module\nin\nend\n", "module\nin 0\nend\n", "module\nin 01\nend\n", "module\nin 5\nend\n", "module\nin -1\nend\n", "module\nin +1\nend\n",
		"module\nin w\nend\n", "module\nin s1\nend\n", "module\nin m1\nend\n", "module\nin 1 0\nend\n", "module\nin 1 1\nend\n", "module\nin W W\nend\n",
		"module\nin 18446744073709551617\nend\n", "module\nin 1000000001\nend\n", "module\nIN 1\nend\n", "module\ninput 1\nend\n", "module\ni 1\nend\n",
		"module\nout 1\nend\n", "module\nout 1\nset s0\nend\n", "module\nout 1\nset 0 1\nend\n", "module\nout 1\nset s 1\nend\n", "module\nout 1\nset m0 1\nend\n",
		"module\nout 1\nset s00 1\nend\n", "module\nout 1\nset s1 1\nend\n", "module\nout 1\nset s0 16\nend\n", "module\nout 1\nset s0 s1\nend\n",
		"module\nout 1\nset s0 1 1\nend\n", "module\nout 1\nset s0 ~\nend\n", "module\nout 1\nset s0 ~1\nend\n", "module\nout 1\nset s0 x\nend\n",
		"module\nout 1\nset s0 1\nset s0 1\nend\n", "module\nset s0 1\nout 1\nend\n", "set s0 1\nmodule\nout 1\nend\n", "module\nout 1\nend\nset s0 1\n",
		"module\nout 1 0\nset s0 1\nend\n", "module\nwire 1 0\nset s0 1\nend\n", "module\nwire 1\nend\n", "module\nwire 5\nset s0 1\nend\n",
		"module\nreg 1\nset s0 1\nend\n", "module\nreg 1 W\nset s0 1\nend\n", "module\nreg 1 16\nset s0 1\nend\n", "module\nreg 1 -1\nset s0 1\nend\n",
		"module\nreg 1 00\nset s0 1\nend\n", "module\nreg 0 0\nset s0 1\nend\n", "module\nreg 1 0 0\nset s0 1\nend\n", "module\nreg 0 W\nset s0 1\nend\n",
		"module\nout 1\nset s0.0 1\nend\n", "module\nout 1\nset s0. 1\nend\n", "module\nout 1\nset s0 s0.\nend\n", "module\nout 1\nset s0 s.0\nend\n",
		"module\nuse m0 W\nend\n", "module\nend\nmodule\nuse\nend\n", "module\nend\nmodule\nuse m0\nend\n", "module\nend\nmodule\nuse 0 W\nend\n",
		"module\nend\nmodule\nuse m0 0\nend\n", "module\nend\nmodule\nuse m0 5\nend\n", "module\nend\nmodule\nuse m W\nend\n", "module\nend\nmodule\nuse m1 W\nend\n",
		"module\nend\nmodule\nuse s0 W\nend\n", "module\nend\nmodule\nuse m0 W s0\nend\n", "module\nend\nmodule\nuse m00 W\nend\n", "module\nend\nmodule\nuse W m0\nend\n",
		"module\nuse m1 W\nend\nmodule\nend\n", "module\nend\nmodule\nuse m-1 W\nend\n", "module\nend\nmodule\nuse m0 m1\nend\n",
		"module\nwire 1\nmem s0 s0 s0\nend\n", "module\nwire 1\nmem s0 s0 s0 s0 s0\nend\n", "module\nwire 1\nmem 0 0 0 0\nend\n", "module\nwire 1\nmem s0 s0 s0 s1\nend\n",
		"module\nwire 1\nmem s0 s0 s1 s0\nend\n", "module\nwire 1\nmem\nend\n", "module\nwire 1\nmem s0 s0 s0 s0\nmem s0 s0 s0 s0\nend\n", "module\nreg 1 0\nmem s0 s0 s0 s0\nend\n",
	} {
		checkNoDesign(t, "no design", text)
	}
	if !checkParse(t, "an instance without ports", "module\nend\nmodule\nuse m0 W\nend\n") || !checkParse(t, "a memory", "module\nwire 1\nmem s0 s0 s0 s0\nend\n") {
		t.Error("a valid design is rejected")
	}
}

// otherWords are what a field is replaced by.
func otherWords() []string {
	return []string{
		"W", "w", "0", "1", "2", "4", "5", "15", "16", "00", "01", "-1", "+1", "99999999999999999999", "1000000000",
		"s", "s0", "s1", "s2", "s3", "s8", "s9", "s29", "s30", "s00", "s0.0", "s3.3", "s3.4", "s0.", "s.0", "s-1", "m", "m0", "m1", "m2", "m3", "m00",
		"~", "&", "?", "~~", "module", "in", "out", "wire", "reg", "set", "use", "mem", "end", "x",
	}
}

// TestTextsWithChangedLines checks texts in which lines are missing, repeated, exchanged or moved.
func TestTextsWithChangedLines(t *testing.T) {
	designs := 0
	for _, text := range []string{driverKindsText, sampleText} {
		lines := strings.Split(strings.TrimSuffix(text, "\n"), "\n")
		check := func(what string, parts ...[]string) {
			if checkParse(t, what, strings.Join(slices.Concat(parts...), "\n")) {
				designs++
			}
		}
		for i := range lines {
			check("the lines before", lines[:i])
			check("the lines from one on", lines[i:])
			check("a line missing", lines[:i], lines[i+1:])
			for j := range lines {
				check("a line repeated", lines[:j], lines[i:i+1], lines[j:])
				check("a line in place of another", lines[:j], lines[i:i+1], lines[j+1:])
				if i < j {
					check("two lines exchanged", lines[:i], lines[j:j+1], lines[i+1:j], lines[i:i+1], lines[j+1:])
					check("a line moved down", lines[:i], lines[i+1:j+1], lines[i:i+1], lines[j+1:])
					check("a line moved up", lines[:i], lines[j:j+1], lines[i:j], lines[j+1:])
				}
			}
		}
	}
	if designs < 20 {
		t.Error("only", designs, "of the texts describe designs")
	}
}

// TestTextsWithChangedFields checks texts in which a field is missing, repeated, exchanged with the
// next one or replaced.
func TestTextsWithChangedFields(t *testing.T) {
	designs := 0
	for _, text := range []string{driverKindsText, sampleText} {
		lines := strings.Split(text, "\n")
		for i, line := range lines {
			fields := strings.Fields(line)
			check := func(what string, parts ...[]string) {
				changed := slices.Clone(lines)
				changed[i] = strings.Join(slices.Concat(parts...), " ")
				if checkParse(t, what, strings.Join(changed, "\n")) {
					designs++
				}
			}
			for f := range fields {
				check("a field missing", fields[:f], fields[f+1:])
				check("a field repeated", fields[:f+1], fields[f:])
				if f > 0 {
					check("two fields exchanged", fields[:f-1], fields[f:f+1], fields[f-1:f], fields[f+1:])
				}
			}
			for _, word := range otherWords() {
				for f := range fields {
					check("a field replaced", fields[:f], []string{word}, fields[f+1:])
					check("a field added", fields[:f], []string{word}, fields[f:])
				}
				check("a field at the end", fields, []string{word})
			}
		}
	}
	if designs < 100 {
		t.Error("only", designs, "of the texts describe designs")
	}
}

func TestTextsWithChangedBytes(t *testing.T) {
	designs := 0
	for _, text := range []string{driverKindsText, sampleText} {
		edits(text, []byte("0159Wsm. \n\r\xa0~?"), func(edited string) {
			if checkParse(t, "a byte changed", edited) {
				designs++
			}
		})
		for i := range text {
			checkParse(t, "the beginning", text[:i])
			checkParse(t, "the end", text[i:])
		}
	}
	if designs < 100 {
		t.Error("only", designs, "of the texts describe designs")
	}
}

// TestParseDesignInverts checks that the lines of what ParseDesign returns are those of the text.
func TestParseDesignInverts(t *testing.T) {
	for _, text := range []string{driverKindsText, sampleText, textOf(longLines())} {
		messy := "\n " + strings.ReplaceAll(strings.ReplaceAll(text, " ", "   "), "\n", "  \n\n ")
		d, ok := impl.ParseDesign(messy)
		if !ok || !impl.DesignOk(d) {
			t.Errorf("ParseDesign(%q) = %v, %v", messy, d, ok)
		}
		if again, ok := impl.FormatDesign(d); again != text || !ok {
			t.Errorf("FormatDesign = %q, %v, want %q", again, ok, text)
		}
	}
}

// TestParseDesignEndsItsGoroutines checks that nothing runs on behind a call, whatever its result.
func TestParseDesignEndsItsGoroutines(t *testing.T) {
	before := runtime.NumGoroutine()
	for range 100 {
		for _, text := range []string{sampleText, "\x00\n" + sampleText, sampleText + strings.Repeat(" ", 601), "end\n" + sampleText, strings.Repeat("\n", 20001), ""} {
			impl.ParseDesign(text)
		}
	}
	for range 100 {
		if runtime.NumGoroutine() <= before {
			return
		}
		time.Sleep(10 * time.Millisecond)
	}
	t.Error(runtime.NumGoroutine()-before, "goroutines are left")
}

func TestSourceMemory(t *testing.T) {
	broken := driverKinds()
	broken.Modules[0].Assigns = nil
	for _, original := range []impl.Design{{}, driverKinds(), impl.SampleDesign(), longLines(), broken} {
		d, before := roomy(original), roomy(original)
		text, ok := impl.FormatDesign(d)
		for k := -1; k <= len(d.Modules); k++ {
			lines, _ := impl.FormatModule(d, k)
			again, _ := impl.FormatModule(d, k)
			if sharesMemory(d, lines, again) {
				t.Error("results of FormatModule share memory")
			}
			clear(lines[:cap(lines)])
			if slices.Contains(again, "") {
				t.Error("a change of one result of FormatModule shows in the next one")
			}
		}
		if !untouched(d, before) {
			t.Errorf("%v was changed to %v", before, d)
		}
		read, is := impl.ParseDesign(text)
		again, _ := impl.ParseDesign(text)
		if is != ok || sharesMemory(d, read, again) {
			t.Error("results of ParseDesign share memory")
		}
		numbers(&read, func(number reflect.Value) { number.SetInt(7) })
		if ok && !sameDesign(again, d) {
			t.Error("a change of one result of ParseDesign shows in the next one")
		}
	}
}
