package shop_test

import (
	"math"
	"testing"

	"speculum/api"
)

// fault is a change that makes something valid invalid, and the error that is due.
type fault[T any] struct {
	spoil func(x *T)
	want  api.Errno
}

// checkFaults checks faults that stand in the order in which they are to be told: each one alone, and each one together
// with one that stands behind it.
func checkFaults[T any](t *testing.T, valid func() T, errorOf func(t *testing.T, x T) api.Errno, faults []fault[T]) {
	t.Helper()
	if e := errorOf(t, valid()); e != api.OK {
		t.Fatal("valid, but", e)
	}
	for i, first := range faults {
		for j, second := range faults[i:] {
			x := valid()
			second.spoil(&x)
			first.spoil(&x)
			if e := errorOf(t, x); e != first.want {
				t.Errorf("faults %d and %d: %d, wanted %d: %v", i, i+j, e, first.want, x)
			}
		}
	}
}

// numberFaults are the faults of a number that is to be from least to most.
func numberFaults[T any](field func(x *T) *int, least, most int, want api.Errno) []fault[T] {
	var l []fault[T]
	for _, n := range []int{least - 1, most + 1, math.MinInt, math.MaxInt} {
		l = append(l, fault[T]{func(x *T) { *field(x) = n }, want})
	}
	return l
}

// nameFaults are the faults of a name; other is a name that is there already, if it is not empty.
func nameFaults[T any](field func(x *T) *string, other string) []fault[T] {
	var l []fault[T]
	for _, name := range badNames {
		l = append(l, fault[T]{func(x *T) { *field(x) = name }, api.ErrName})
	}
	if other != "" {
		l = append(l, fault[T]{func(x *T) { *field(x) = other }, api.ErrExists})
	}
	return l
}

// checkLimits checks that a number may be least and most.
func checkLimits[T any](t *testing.T, valid func() T, errorOf func(t *testing.T, x T) api.Errno, field func(x *T) *int, least, most int) {
	t.Helper()
	for _, n := range []int{least, most} {
		x := valid()
		*field(&x) = n
		if e := errorOf(t, x); e != api.OK {
			t.Error(n, e, x)
		}
	}
}

// none fails if a result beside an error is not its zero value.
func none(t *testing.T, e api.Errno, isZero bool) {
	t.Helper()
	if e != api.OK && !isZero {
		t.Error("a result beside the error", e)
	}
}

// agree fails if errors differ.
func agree(t *testing.T, errors ...api.Errno) api.Errno {
	t.Helper()
	for _, e := range errors {
		if e != errors[0] {
			t.Error("different errors", errors)
		}
	}
	return errors[0]
}

var names = []string{"a", "z", "A", "Z", "azAZ-09", "a-", "abcdefghijkl", "A1-2b", "x999"}

var badNames = []string{"", "1", "-a", "abcdefghijklm", "a b", "a_b", "a\n", "\u00e4", "a\u00e4", "\xe4", "a\xe4", "a.", " a", "a\x00", "[", "a{", "a/", "a:", "a@", "a`"}
