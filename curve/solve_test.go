package curve_test

import (
	"slices"
	"testing"

	"gouache/api"
	"gouache/curve"
)

// firstArguments returns, for each y from 0 to 65535, the first argument at which a curve reaches it, or -1.
func firstArguments(c api.Curve) []int {
	first := make([]int, 0, 65536)
	for x := range 65536 {
		for value := curve.At(c, x); len(first) <= value; {
			first = append(first, x)
		}
	}
	for len(first) < 65536 {
		first = append(first, -1)
	}
	return first
}

// P5.3: the example of the chapter, values at both ends, between two values and on a flat part.
func TestSolve(t *testing.T) {
	for _, x := range []struct {
		c       api.Curve
		y, want int
		ok      bool
	}{
		{api.Curve{10, 20}, 15, 29491, true}, {api.Curve{10, 20}, 20, 62259, true}, {api.Curve{10, 20}, 21, 0, false}, {api.Curve{10, 20}, 11, 3277, true}, {api.Curve{10, 20}, 10, 0, true}, {api.Curve{10, 20}, 9, 0, true},
		{api.Curve{0, 0, 65535}, 0, 0, true}, {api.Curve{0, 0, 65535}, 1, 32768, true}, {api.Curve{0, 0, 65535}, 32768, 49152, true}, {api.Curve{0, 0, 65535}, 65535, 65535, true},
		{api.Curve{0, 65535}, 65535, 65535, true}, {api.Curve{0, 65535}, 65534, 65534, true}, {api.Curve{0, 65535}, 65536, 0, false},
		{api.Curve{0, 65534}, 65535, 0, false}, {api.Curve{65535, 65535}, 65535, 0, true}, {api.Curve{65535, 65535}, 65536, 0, false}, {api.Curve{0, 0}, 0, 0, true}, {api.Curve{0, 0}, 1, 0, false},
		{api.Curve{0, 1}, 1, 32768, true}, {api.Curve{0, 100, 100, 200}, 100, 21736, true}, {api.Curve{0, 100, 100, 200}, 101, 43800, true},
	} {
		if got, ok := curve.Solve(x.c, x.y); got != x.want || ok != x.ok {
			t.Errorf("Solve(%v, %d) is %d, %v, not %d, %v", x.c, x.y, got, ok, x.want, x.ok)
		}
	}
}

// P5.3 and P5.8: every y in range, for each curve; x is the first argument that reaches y, so that exactly the arguments from x on reach it.
func TestSolveReturnsTheFirstArgument(t *testing.T) {
	for _, c := range validCurves() {
		for y, first := range firstArguments(c) {
			x, ok := curve.Solve(c, y)
			if first < 0 && (x != 0 || ok) || first >= 0 && (x != first || !ok) {
				t.Fatalf("Solve(%v, %d) is %d, %v, not %d", c, y, x, ok, first)
			}
		}
	}
}

// P5.8: At(c, x) >= y if and only if Solve(c, y) returns an argument of at most x.
func TestSolveAndAtAreAConnection(t *testing.T) {
	for _, c := range validCurves() {
		for _, y := range []int{least, -1, 0, 1, c[0] - 1, c[0], c[0] + 1, 19, 20000, 32768, c[len(c)-1] - 1, c[len(c)-1], c[len(c)-1] + 1, 65535, 65536, greatest} {
			solved, ok := curve.Solve(c, y)
			for x := 0; x <= 65535; x += 85 {
				if (curve.At(c, x) >= y) != (ok && solved <= x) {
					t.Fatalf("At(%v, %d) is %d, but Solve of %d is %d, %v", c, x, curve.At(c, x), y, solved, ok)
				}
			}
		}
	}
}

// P5.3: integers below all values and above all values.
func TestSolveOfIntegersOutOfRange(t *testing.T) {
	for _, c := range validCurves() {
		for _, y := range []int{-1, -65536, -1 << 32, least + 1, least} {
			if x, ok := curve.Solve(c, y); x != 0 || !ok {
				t.Errorf("Solve(%v, %d) is %d, %v", c, y, x, ok)
			}
		}
		for _, y := range []int{c[len(c)-1] + 1, 65536, 70000, 1 << 32, 1<<32 + 1, greatest - 1, greatest} {
			if x, ok := curve.Solve(c, y); x != 0 || ok {
				t.Errorf("Solve(%v, %d) is %d, %v", c, y, x, ok)
			}
		}
	}
}

// P5.3: an invalid curve reaches nothing, not even 0.
func TestSolveOfInvalidCurves(t *testing.T) {
	for _, c := range invalidCurves() {
		for _, y := range []int{0, 1, 5, 65535, 65536, -1, least, greatest} {
			if x, ok := curve.Solve(c, y); x != 0 || ok {
				t.Errorf("Solve(%v, %d) is %d, %v", c, y, x, ok)
			}
		}
	}
}

// P5.4: results in numbers, for curves that do not reach everything too.
func TestInverse(t *testing.T) {
	for _, x := range []struct{ c, want api.Curve }{
		{api.Curve{0, 65535}, api.Curve{0, 65535}},
		{api.Curve{0, 0, 65535}, api.Curve{0, 49152, 65535}},
		{api.Curve{0, 65535, 65535}, api.Curve{0, 16384, 32768}},
		{api.Curve{0, 100}, api.Curve{0, 65535}},
		{api.Curve{0, 32768}, api.Curve{0, 65535, 65535}},
		{api.Curve{0, 32767}, api.Curve{0, 65535, 65535}},
		{api.Curve{0, 40000}, api.Curve{0, 35790, 65535, 65535}},
		{api.Curve{40000, 65535}, api.Curve{0, 0, 9470, 65534}},
		{api.Curve{65535, 65535}, api.Curve{0, 0, 0, 0}},
		{api.Curve{0, 0}, api.Curve{0, 65535, 65535, 65535, 65535}},
	} {
		got, err := curve.Inverse(x.c, len(x.want))
		if err != api.OK || !slices.Equal(got, x.want) {
			t.Errorf("Inverse(%v, %d) is %v, %v, not %v", x.c, len(x.want), got, err, x.want)
		}
	}
}

// P5.4 and P5.8: each curve, with various numbers of points, against the first arguments that reach the values.
func TestInverseReturnsTheFirstArguments(t *testing.T) {
	for _, c := range validCurves() {
		first := firstArguments(c)
		for _, n := range validCounts() {
			want := generated(n, func(i int) int {
				if x := first[argument(i, n)]; x >= 0 {
					return x
				}
				return 65535
			})
			got, err := curve.Inverse(c, n)
			if err != api.OK || !slices.Equal(got, want) || !curve.Valid(got) {
				t.Errorf("Inverse(%v, %d) is %v, %v, not %v", c, n, got, err, want)
			}
		}
	}
}

// P5.4 and P1: an invalid curve comes before an invalid number of points; the curve is nil with an error.
func TestErrorsOfInverse(t *testing.T) {
	for _, n := range invalidCounts() {
		for _, good := range []api.Curve{{0, 1}, {0, 65535}, {5, 5, 5}} {
			if c, err := curve.Inverse(good, n); c != nil || err != api.ErrArg {
				t.Errorf("Inverse(%v, %d) is %v, %v", good, n, c, err)
			}
		}
	}
	for _, bad := range invalidCurves() {
		for _, n := range append(invalidCounts(), 2, 3, 257) {
			if c, err := curve.Inverse(bad, n); c != nil || err != api.ErrCurve {
				t.Errorf("Inverse(%v, %d) is %v, %v", bad, n, c, err)
			}
		}
	}
}
