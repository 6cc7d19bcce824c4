package tests

import (
	"encoding/hex"
	"fmt"
	"math"
	"slices"
	"strings"
	"testing"

	"loop.example/g03311/impl"
)

// allBytes contains every byte once.
func allBytes() string {
	b := make([]byte, 256)
	for i := range b {
		b[i] = byte(i)
	}
	return string(b)
}

func TestTextLimits(t *testing.T) {
	if impl.MaxInputLen != 20000 || impl.MaxUint != 1000000000 || impl.MaxLineLen != 600 || impl.MaxFieldsPerLine != 40 {
		t.Error("a limit of Chapter 1 has a wrong value")
	}
}

func TestEncodeHexValues(t *testing.T) {
	cases := []struct{ in, want string }{
		{"", ""},
		{"az", "617a"},
		{"\x00", "00"},
		{"\x0f\xf0", "0ff0"},
		{"\xff\xfe\xab", "fffeab"},
		{"é", "c3a9"},
	}
	for _, c := range cases {
		got, ok := impl.EncodeHex(c.in)
		if got != c.want || !ok {
			t.Errorf("EncodeHex(%q) = %q, %v, want %q, true", c.in, got, ok, c.want)
		}
	}
}

func TestHexRoundTrip(t *testing.T) {
	inputs := []string{
		"", "a", allBytes(),
		strings.Repeat("\xa5", impl.MaxInputLen-1),
		strings.Repeat("\x00", impl.MaxInputLen),
		strings.Repeat(allBytes(), 78)[:impl.MaxInputLen-32],
	}
	for i := 0; i < 256; i++ {
		inputs = append(inputs, string([]byte{byte(i)}))
	}
	for _, in := range inputs {
		text, ok := impl.EncodeHex(in)
		if !ok || text != hex.EncodeToString([]byte(in)) {
			t.Fatalf("EncodeHex of %d bytes is wrong", len(in))
		}
		back, ok := impl.DecodeHex(text)
		if !ok || back != in {
			t.Fatalf("DecodeHex does not invert EncodeHex for %d bytes", len(in))
		}
	}
}

func TestHexLimit(t *testing.T) {
	for _, n := range []int{impl.MaxInputLen + 1, impl.MaxInputLen + 2, 3 * impl.MaxInputLen} {
		if got, ok := impl.EncodeHex(strings.Repeat("x", n)); ok || got != "" {
			t.Errorf("EncodeHex accepts %d bytes", n)
		}
		if got, ok := impl.DecodeHex(strings.Repeat("78", n)); ok || got != "" {
			t.Errorf("DecodeHex accepts a result of %d bytes", n)
		}
	}
}

func TestDecodeHexInvalid(t *testing.T) {
	inputs := []string{
		"0", "617", "61 ", " 61", "6 1a", "61\n", "A0", "aF", "617A", "Ff", "0x61", "g0", "0g", "/0", ":0", "`0",
		"-1", "+1", "é", "61\x00\x00", "zz",
		strings.Repeat("0", 2*impl.MaxInputLen-1),
		strings.Repeat("0", 2*impl.MaxInputLen+1),
		strings.Repeat("0", 2*impl.MaxInputLen-1) + "G",
	}
	for _, in := range inputs {
		if got, ok := impl.DecodeHex(in); ok || got != "" {
			t.Errorf("DecodeHex(%.20q) = %q, %v, want \"\", false", in, got, ok)
		}
	}
}

func TestDecodeHexEveryPair(t *testing.T) {
	digits := "0123456789abcdef"
	for i := 0; i < 256*256; i++ {
		in := string([]byte{byte(i >> 8), byte(i)})
		high, low := strings.IndexByte(digits, in[0]), strings.IndexByte(digits, in[1])
		want, wantOk := "", high >= 0 && low >= 0
		if wantOk {
			want = string([]byte{byte(16*high + low)})
		}
		if got, ok := impl.DecodeHex(in); got != want || ok != wantOk {
			t.Fatalf("DecodeHex(%q) = %q, %v, want %q, %v", in, got, ok, want, wantOk)
		}
	}
}

func TestFormatInt(t *testing.T) {
	cases := map[int]string{
		0: "0", 1: "1", -1: "-1", 9: "9", 10: "10", -10: "-10", -30: "-30", 100: "100",
		impl.MaxUint:  "1000000000",
		math.MaxInt64: "9223372036854775807",
		math.MinInt64: "-9223372036854775808",
	}
	for n, want := range cases {
		if got := impl.FormatInt(n); got != want {
			t.Errorf("FormatInt(%d) = %q, want %q", n, got, want)
		}
	}
	for shift := range 64 {
		for _, n := range []int{1 << shift, -(1 << shift), 1<<shift - 1, 1<<shift + 1} {
			if got := impl.FormatInt(n); got != fmt.Sprint(n) {
				t.Errorf("FormatInt(%d) = %q", n, got)
			}
		}
	}
}

func TestParseUintInvertsFormatInt(t *testing.T) {
	inRange := []int{impl.MaxUint - 1, impl.MaxUint, 999999999, 123456789, 100000000}
	for n := range 3000 {
		inRange = append(inRange, n)
	}
	for _, n := range inRange {
		if got, ok := impl.ParseUint(impl.FormatInt(n)); got != n || !ok {
			t.Errorf("ParseUint(%q) = %d, %v", impl.FormatInt(n), got, ok)
		}
	}
	outside := []int{impl.MaxUint + 1, 10 * impl.MaxUint, math.MaxInt64, math.MinInt64, -1, -10, -impl.MaxUint}
	for _, n := range outside {
		if got, ok := impl.ParseUint(impl.FormatInt(n)); got != 0 || ok {
			t.Errorf("ParseUint(%q) = %d, %v, want 0, false", impl.FormatInt(n), got, ok)
		}
	}
}

func TestParseUintInvalid(t *testing.T) {
	inputs := []string{
		"", " ", "-", "+", "00", "01", "000", "0000000001", "01000000000", "+0", "-0", "+1", "-1", " 1", "1 ", "1\n",
		"1 2", "1_000", "0x10", "1e3", "1.0", "a", "1a", "a1", "/", ":", "\x00", "1\x00", "٣", "１",
		"1000000001", "9999999999", "9223372036854775808", "18446744073709551616", "18446744073709551617",
		strings.Repeat("9", 5000), strings.Repeat("0", 5000),
	}
	for _, in := range inputs {
		if got, ok := impl.ParseUint(in); got != 0 || ok {
			t.Errorf("ParseUint(%.30q) = %d, %v, want 0, false", in, got, ok)
		}
	}
}

func TestSplitFieldsValues(t *testing.T) {
	cases := []struct {
		line string
		want []string
	}{
		{"", nil},
		{" ", nil},
		{"     ", nil},
		{strings.Repeat(" ", impl.MaxLineLen), nil},
		{"a", []string{"a"}},
		{" a", []string{"a"}},
		{"a ", []string{"a"}},
		{"a b", []string{"a", "b"}},
		{"  set s1  W ", []string{"set", "s1", "W"}},
		{"~ ! \" ~!", []string{"~", "!", "\"", "~!"}},
		{"a a a", []string{"a", "a", "a"}},
		{strings.Repeat("x", impl.MaxLineLen), []string{strings.Repeat("x", impl.MaxLineLen)}},
	}
	for _, c := range cases {
		got, ok := impl.SplitFields(c.line)
		if !ok || !slices.Equal(got, c.want) {
			t.Errorf("SplitFields(%.30q) = %q, %v, want %q, true", c.line, got, ok, c.want)
		}
	}
}

func TestSplitFieldsLineLength(t *testing.T) {
	lines := []string{
		strings.Repeat("x", impl.MaxLineLen+1),
		strings.Repeat(" ", impl.MaxLineLen+1),
		"a" + strings.Repeat(" ", impl.MaxLineLen),
		strings.Repeat("x", 100*impl.MaxLineLen),
	}
	for _, line := range lines {
		if got, ok := impl.SplitFields(line); ok || len(got) != 0 {
			t.Errorf("SplitFields accepts %d bytes", len(line))
		}
	}
}

func TestSplitFieldsCount(t *testing.T) {
	full := strings.Repeat("f ", impl.MaxFieldsPerLine)
	for _, line := range []string{full, " " + full, full + "  ", strings.TrimSuffix(full, " ")} {
		if got, ok := impl.SplitFields(line); !ok || len(got) != impl.MaxFieldsPerLine {
			t.Errorf("SplitFields(%q) has %d fields, %v", line, len(got), ok)
		}
	}
	for _, line := range []string{full + "g", full + "g ", full + full, strings.Repeat("f ", 300)} {
		if got, ok := impl.SplitFields(line); ok || len(got) != 0 {
			t.Errorf("SplitFields(%q) = %q, %v, want nil, false", line, got, ok)
		}
	}
}

func TestSplitFieldsEveryByte(t *testing.T) {
	for i := 0; i < 256; i++ {
		b := string([]byte{byte(i)})
		for _, line := range []string{b, "ab " + b, b + " ab", "a" + b + "c", strings.Repeat("x", impl.MaxLineLen-1) + b} {
			got, ok := impl.SplitFields(line)
			if wantOk := i >= 32 && i <= 126; ok != wantOk {
				t.Errorf("SplitFields with byte %d: %v", i, ok)
			}
			if ok && !slices.Equal(got, strings.Fields(line)) || !ok && len(got) != 0 {
				t.Errorf("SplitFields(%.20q) = %q", line, got)
			}
		}
	}
}

func TestClampValues(t *testing.T) {
	cases := []struct{ n, low, high, want int }{
		{9, 1, 5, 5},
		{-9, 1, 5, 1},
		{3, 1, 5, 3},
		{1, 1, 5, 1},
		{5, 1, 5, 5},
		{7, 4, 4, 4},
		{-7, -9, -8, -8},
		{3, 5, 1, 5},
		{0, 5, 1, 5},
		{9, 5, 1, 5},
		{0, 0, -1, 0},
		{math.MaxInt64, math.MinInt64, math.MaxInt64, math.MaxInt64},
		{math.MinInt64, math.MinInt64, math.MaxInt64, math.MinInt64},
		{0, math.MaxInt64, math.MinInt64, math.MaxInt64},
		{math.MaxInt64, 0, math.MinInt64, 0},
		{math.MinInt64, 0, 1, 0},
	}
	for _, c := range cases {
		if got := impl.Clamp(c.n, c.low, c.high); got != c.want {
			t.Errorf("Clamp(%d, %d, %d) = %d, want %d", c.n, c.low, c.high, got, c.want)
		}
	}
}

func TestClampIsInRange(t *testing.T) {
	values := []int{math.MinInt64, math.MinInt64 + 1, -3, -1, 0, 1, 2, 7, math.MaxInt64 - 1, math.MaxInt64}
	for _, n := range values {
		for _, low := range values {
			for _, high := range values {
				want := low
				if low <= high {
					want = slices.Sorted(slices.Values([]int{n, low, high}))[1]
				}
				if got := impl.Clamp(n, low, high); got != want {
					t.Errorf("Clamp(%d, %d, %d) = %d, want %d", n, low, high, got, want)
				}
			}
		}
	}
}
