package cond_test

import (
	"math"
	"testing"

	"tstate/api"
	"tstate/cond"
)

// names are those of the conditions, at their numbers.
var names = [12]string{"NZ", "Z", "NC", "C", "PO", "PE", "P", "M", "NK", "K", "V", "always"}

// allFlags returns all 128 sets of flags.
func allFlags() (all []api.Flags) {
	for n := range 128 {
		has := func(bit int) bool { return n>>bit&1 == 1 }
		all = append(all, api.Flags{S: has(0), Z: has(1), K: has(2), AC: has(3), P: has(4), V: has(5), CY: has(6)})
	}
	return all
}

// P10.1
func TestExamples(t *testing.T) {
	every := api.Flags{S: true, Z: true, K: true, AC: true, P: true, V: true, CY: true}
	for _, x := range []struct {
		cond int
		f    api.Flags
		want bool
	}{
		{api.CondM, api.Flags{S: true}, true}, {api.CondP, api.Flags{S: true}, false}, {12, api.Flags{}, false}, {12, every, false},
		{api.CondNZ, api.Flags{}, true}, {api.CondZ, api.Flags{}, false}, {api.CondNZ, api.Flags{Z: true}, false}, {api.CondZ, api.Flags{Z: true}, true},
		{api.CondNC, api.Flags{}, true}, {api.CondC, api.Flags{}, false}, {api.CondNC, api.Flags{CY: true}, false}, {api.CondC, api.Flags{CY: true}, true},
		{api.CondPO, api.Flags{}, true}, {api.CondPE, api.Flags{}, false}, {api.CondPO, api.Flags{P: true}, false}, {api.CondPE, api.Flags{P: true}, true},
		{api.CondP, api.Flags{}, true}, {api.CondM, api.Flags{}, false}, {api.CondP, api.Flags{P: true}, true}, {api.CondM, api.Flags{P: true}, false},
		{api.CondNK, api.Flags{}, true}, {api.CondK, api.Flags{}, false}, {api.CondNK, api.Flags{K: true}, false}, {api.CondK, api.Flags{K: true}, true},
		{api.CondV, api.Flags{}, false}, {api.CondV, api.Flags{V: true}, true}, {api.CondK, api.Flags{V: true}, false}, {api.CondV, api.Flags{K: true, S: true}, false},
		{api.CondC, api.Flags{AC: true}, false}, {api.CondAlways, api.Flags{}, true}, {api.CondAlways, every, true},
		{api.CondNZ, every, false}, {api.CondNK, every, false}, {api.CondV, every, true}, {-1, api.Flags{}, false}, {-1, every, false},
	} {
		if got := cond.Holds(x.cond, x.f); got != x.want {
			t.Errorf("Holds(%d, %+v) = %t, want %t", x.cond, x.f, got, x.want)
		}
	}
}

// P10.1: all conditions with all flags.
func TestAllConditions(t *testing.T) {
	for _, f := range allFlags() {
		want := [12]bool{!f.Z, f.Z, !f.CY, f.CY, !f.P, f.P, !f.S, f.S, !f.K, f.K, f.V, true}
		for n, name := range names {
			if got := cond.Holds(n, f); got != want[n] {
				t.Errorf("%s with %+v is %t, want %t", name, f, got, want[n])
			}
		}
	}
}

// P10.1: other numbers, also those that agree with a condition in their low bits alone.
func TestOtherNumbers(t *testing.T) {
	numbers := []int{math.MinInt, math.MinInt + 1, math.MinInt + 11, math.MaxInt, math.MaxInt - 1, math.MaxInt - 4}
	for n := 1; n <= 300; n++ {
		numbers = append(numbers, -n, 11+n)
	}
	for n := range names {
		numbers = append(numbers, n+16, n+256, n-256, n+1<<16, n+1<<32, n-1<<32)
	}
	for _, f := range allFlags() {
		for _, n := range numbers {
			if cond.Holds(n, f) {
				t.Errorf("the condition %d holds with %+v", n, f)
			}
		}
	}
}

// P10.2
func TestOneOfEachPairHolds(t *testing.T) {
	for _, f := range allFlags() {
		for n := range 5 {
			if cond.Holds(2*n, f) == cond.Holds(2*n+1, f) {
				t.Errorf("of the conditions %s and %s, both or none hold with %+v", names[2*n], names[2*n+1], f)
			}
		}
	}
}
