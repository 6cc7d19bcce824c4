package tests

import (
	"reflect"
	"testing"
)

// roomy returns a copy of a value that shares no memory with it, and in which each slice has spare
// capacity that holds marks.
func roomy[T any](value T) T {
	var result T
	copyRoomy(reflect.ValueOf(&result).Elem(), reflect.ValueOf(&value).Elem())
	return result
}

func copyRoomy(to reflect.Value, from reflect.Value) {
	switch from.Kind() {
	case reflect.Struct:
		for i := range from.NumField() {
			copyRoomy(to.Field(i), from.Field(i))
		}
	case reflect.Array:
		for i := range from.Len() {
			copyRoomy(to.Index(i), from.Index(i))
		}
	case reflect.Slice:
		to.Set(reflect.MakeSlice(from.Type(), from.Len()+2, from.Len()+2))
		for i := range from.Len() {
			copyRoomy(to.Index(i), from.Index(i))
		}
		mark(to.Index(from.Len()))
		mark(to.Index(from.Len() + 1))
		to.SetLen(from.Len())
	default:
		to.Set(from)
	}
}

// mark fills a value with numbers and strings that no result contains.
func mark(value reflect.Value) {
	switch value.Kind() {
	case reflect.Struct:
		for i := range value.NumField() {
			mark(value.Field(i))
		}
	case reflect.Array:
		for i := range value.Len() {
			mark(value.Index(i))
		}
	case reflect.Int:
		value.SetInt(-987654321)
	case reflect.String:
		value.SetString("mark")
	case reflect.Bool:
		value.SetBool(true)
	}
}

// overwrite marks the elements of all slices within a value, spare capacity included.
func overwrite(value reflect.Value) {
	switch value.Kind() {
	case reflect.Struct:
		for i := range value.NumField() {
			overwrite(value.Field(i))
		}
	case reflect.Slice:
		value = value.Slice(0, value.Cap())
		for i := range value.Len() {
			overwrite(value.Index(i))
			mark(value.Index(i))
		}
	}
}

// untouched reports whether two results of roomy are equal, spare capacity included.
func untouched[T any](a T, b T) bool {
	return sameWithin(reflect.ValueOf(a), reflect.ValueOf(b))
}

func sameWithin(a reflect.Value, b reflect.Value) bool {
	switch a.Kind() {
	case reflect.Struct:
		for i := range a.NumField() {
			if !sameWithin(a.Field(i), b.Field(i)) {
				return false
			}
		}
		return true
	case reflect.Slice:
		if a.Len() != b.Len() || a.Cap() != b.Cap() {
			return false
		}
		a, b = a.Slice(0, a.Cap()), b.Slice(0, b.Cap())
		fallthrough
	case reflect.Array:
		for i := range a.Len() {
			if !sameWithin(a.Index(i), b.Index(i)) {
				return false
			}
		}
		return true
	}
	return a.Equal(b)
}

// span is the memory of a slice, from its first byte to its end.
type span struct{ start, end uintptr }

// memoryOf returns the memory of all slices within a value, their spare capacity included.
func memoryOf(value reflect.Value) []span {
	var list []span
	switch value.Kind() {
	case reflect.Struct:
		for i := range value.NumField() {
			list = append(list, memoryOf(value.Field(i))...)
		}
	case reflect.Slice:
		if value.Cap() == 0 {
			return nil
		}
		start := value.Pointer()
		list = append(list, span{start, start + uintptr(value.Cap())*value.Type().Elem().Size()})
		fallthrough
	case reflect.Array:
		for i := range value.Len() {
			list = append(list, memoryOf(value.Index(i))...)
		}
	}
	return list
}

// sharesMemory reports whether two of all the slices within the values share memory.
func sharesMemory(values ...any) bool {
	var list []span
	for _, value := range values {
		list = append(list, memoryOf(reflect.ValueOf(value))...)
	}
	for i, a := range list {
		for _, b := range list[:i] {
			if a.start < b.end && b.start < a.end {
				return true
			}
		}
	}
	return false
}

func TestMemoryHelpers(t *testing.T) {
	type pair struct{ A, B []int }
	value := []pair{{[]int{1, 2}, nil}, {nil, []int{3}}}
	first, second := roomy(value), roomy(value)
	if !reflect.DeepEqual(first[0].A, value[0].A) || !untouched(first, second) || sharesMemory(value, first, second) {
		t.Error("roomy returns", first)
	}
	first[1].B[:2][1] = 4
	if untouched(first, second) {
		t.Error("a change of spare capacity is not noticed")
	}
	overwrite(reflect.ValueOf(second))
	if second[0].A[1] == 2 || second[1].B[0] == 3 || !reflect.DeepEqual(first[0].A, value[0].A) {
		t.Error("overwrite leaves", second, "and", first)
	}
	whole := []int{1, 2, 3}
	if !sharesMemory(pair{whole[:1], whole[1:]}) || !sharesMemory(whole, []pair{{A: whole[2:]}}) {
		t.Error("shared memory is not noticed")
	}
	if sharesMemory(pair{whole[:1:1], whole[1:]}) {
		t.Error("separate memory is called shared")
	}
}
