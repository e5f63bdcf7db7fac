package curve_test

import (
	"math"
	"math/big"
	"slices"
	"testing"

	"gouache/api"
	"gouache/curve"
)

const (
	least    = math.MinInt
	greatest = math.MaxInt
)

// generated returns the curve of these many points whose values are a function of their index.
func generated(points int, value func(i int) int) api.Curve {
	c := make(api.Curve, points)
	for i := range c {
		c[i] = value(i)
	}
	return c
}

// validCurves returns curves of all kinds: steep, flat and bent ones, with few and with many points, and with points at both bounds.
func validCurves() []api.Curve {
	return []api.Curve{
		{0, 65535}, {0, 0}, {65535, 65535}, {10, 20}, {7, 9}, {0, 1}, {65534, 65535}, {0, 65534}, {1, 65535}, {32767, 32768},
		{0, 0, 65535}, {0, 65535, 65535}, {0, 32768, 65535}, {0, 1, 65535}, {3, 3, 3}, {100, 300, 301},
		{0, 100, 100, 200}, {5, 5, 60000, 60000, 60001}, {0, 21845, 43690, 65535}, {0, 0, 0, 0, 0, 0, 1},
		generated(17, func(i int) int { return i * i * 255 }),
		generated(100, func(i int) int { return 600*i + i%7 }),
		generated(256, func(i int) int { return 257 * i }),
		generated(257, func(int) int { return 0 }),
		generated(257, func(int) int { return 65535 }),
		generated(257, func(i int) int { return i * i * i / 257 }),
		generated(257, func(i int) int { return i / 256 * 65535 }),
		generated(257, func(i int) int { return 30000 + i/3 }),
	}
}

// invalidCurves returns curves with a wrong number of points, with a point out of range, and with points that fall, near both ends and in the middle.
func invalidCurves() []api.Curve {
	huge := generated(100000, func(int) int { return 5 })
	curves := []api.Curve{
		nil, {}, {0}, {5}, {65535}, generated(258, func(int) int { return 0 }), generated(258, func(i int) int { return 200 * i }), generated(512, func(i int) int { return i }), huge,
		{-1, 0}, {-1, 65535}, {-1, -1}, {0, 65536}, {65535, 65536}, {65536, 65536}, {-1, 65536}, {least, 0}, {0, greatest}, {least, greatest}, {greatest, greatest}, {least, least},
		{0, 1 << 32}, {1 << 16, 1<<16 + 9}, {-1 << 32, 9}, {-5, 0, 10}, {0, 10, 70000},
		{5, 4}, {65535, 0}, {greatest, least}, {5, 4, 6}, {4, 6, 5}, {0, 65536, 65535}, {0, -1, 5}, {1, 0, 0, 0}, {0, 0, 1, 0}, {0, 9, 7, 20}, {0, greatest, 5}, {0, least, 5},
	}
	for _, i := range []int{0, 1, 128, 255} {
		fallen := generated(257, func(i int) int { return 250*i + 2 })
		fallen[i] = fallen[i+1] + 1
		curves = append(curves, fallen)
	}
	return curves
}

// validCounts returns numbers of points that a curve may have.
func validCounts() []int {
	return []int{2, 3, 4, 5, 6, 16, 17, 100, 128, 129, 255, 256, 257}
}

// invalidCounts returns numbers of points that no curve has.
func invalidCounts() []int {
	return []int{1, 0, -1, -2, -257, 258, 259, 512, 65536, 1 << 32, 1<<32 + 2, -1<<32 + 2, least, least + 1, least + 2, greatest - 1, greatest}
}

// argument returns 65535 i / (n-1), rounded to the nearest integer, halves upwards.
func argument(i, n int) int {
	return roundHalfUp(big.NewRat(65535*int64(i), int64(n-1)))
}

// roundHalfUp returns the integer nearest to x, which is not negative, or the greater one of the two.
func roundHalfUp(x *big.Rat) int {
	x = new(big.Rat).Add(x, big.NewRat(1, 2))
	return int(new(big.Int).Div(x.Num(), x.Denom()).Int64())
}

// exactAt returns the value of a valid curve at an argument in range: the point on the line between the points around it, rounded.
func exactAt(c api.Curve, x int) int {
	position := big.NewRat(int64(len(c)-1)*int64(x), 65535)
	i := int(new(big.Int).Div(position.Num(), position.Denom()).Int64())
	if i == len(c)-1 {
		return c[i]
	}
	part := position.Sub(position, big.NewRat(int64(i), 1))
	rise := new(big.Rat).Mul(part, big.NewRat(int64(c[i+1]-c[i]), 1))
	return roundHalfUp(rise.Add(rise, big.NewRat(int64(c[i]), 1)))
}

// P5.1: curves at each bound of the definition, and beyond it.
func TestValid(t *testing.T) {
	for _, c := range validCurves() {
		if !curve.Valid(c) {
			t.Errorf("%v is not valid", c)
		}
	}
	for _, c := range invalidCurves() {
		if curve.Valid(c) {
			t.Errorf("%v is valid", c)
		}
	}
}

// P5.1: every number of points around the limits.
func TestValidNumbersOfPoints(t *testing.T) {
	for count := range 600 {
		flat, rising := make(api.Curve, count), generated(count, func(i int) int { return i })
		want := count >= 2 && count <= 257
		if curve.Valid(flat) != want || curve.Valid(rising) != want {
			t.Errorf("curves of %d points are valid: %v, %v", count, curve.Valid(flat), curve.Valid(rising))
		}
	}
}

// P5.1: the examples of the chapter, points that are met exactly, and values around a half.
func TestAt(t *testing.T) {
	for _, x := range []struct {
		c       api.Curve
		x, want int
	}{
		{api.Curve{0, 65535}, 1000, 1000}, {api.Curve{0, 65535}, 0, 0}, {api.Curve{0, 65535}, 65535, 65535},
		{api.Curve{0, 0, 65535}, 49151, 32767}, {api.Curve{0, 0, 65535}, 49152, 32769}, {api.Curve{0, 0, 65535}, 32767, 0}, {api.Curve{0, 0, 65535}, 32768, 1},
		{api.Curve{10, 20}, 0, 10}, {api.Curve{10, 20}, 65535, 20}, {api.Curve{10, 20}, 65534, 20},
		{api.Curve{0, 1}, 32767, 0}, {api.Curve{0, 1}, 32768, 1}, {api.Curve{10, 20}, 29490, 14}, {api.Curve{10, 20}, 29491, 15},
		{api.Curve{0, 100, 100, 200}, 21845, 100}, {api.Curve{0, 100, 100, 200}, 32768, 100}, {api.Curve{0, 100, 100, 200}, 43690, 100}, {api.Curve{0, 100, 100, 200}, 65535, 200},
		{api.Curve{65535, 65535}, 31000, 65535}, {generated(256, func(i int) int { return 257 * i }), 257 * 99, 257 * 99},
	} {
		if got := curve.At(x.c, x.x); got != x.want {
			t.Errorf("At(%v, %d) is %d, not %d", x.c, x.x, got, x.want)
		}
	}
}

// P5.1: each curve against rational numbers, at arguments that are close to each other and around each of its points.
func TestAtIsRoundedExactly(t *testing.T) {
	for _, c := range validCurves() {
		for x := 0; x <= 65535; x += 61 {
			expectValue(t, c, x, exactAt(c, x))
		}
		for i := range c {
			near := argument(i, len(c))
			for x := max(0, near-2); x <= min(65535, near+2); x++ {
				expectValue(t, c, x, exactAt(c, x))
			}
		}
	}
}

// expectValue reports a value of a curve other than the wanted one.
func expectValue(t *testing.T, c api.Curve, x, want int) {
	t.Helper()
	if got := curve.At(c, x); got != want {
		t.Errorf("At(%v, %d) is %d, not %d", c, x, got, want)
	}
}

// P5.1: arguments out of range count as the nearest ones in range; no product wraps around.
func TestAtClampsItsArgument(t *testing.T) {
	for _, c := range validCurves() {
		for _, x := range []int{-1, -2, -65535, -65536, -1 << 31, -1 << 32, -1 << 48, least, least + 1, 0} {
			expectValue(t, c, x, c[0])
		}
		for _, x := range []int{65535, 65536, 65537, 70000, 131070, 1 << 31, 1 << 32, 1<<32 + 5, 1 << 48, 1<<62 + 1, greatest - 1, greatest} {
			expectValue(t, c, x, c[len(c)-1])
		}
	}
}

// P5.1: the value of an invalid curve is 0 everywhere.
func TestAtOfInvalidCurves(t *testing.T) {
	for _, c := range invalidCurves() {
		for _, x := range []int{0, 1, 7, 32767, 65534, 65535, 65536, -1, least, greatest} {
			expectValue(t, c, x, 0)
		}
	}
}

// P5.8: a curve never falls, and between two points its values lie between theirs.
func TestAtIsMonotone(t *testing.T) {
	for _, c := range validCurves() {
		last, before := len(c)-1, c[0]
		for x := range 65536 {
			value := curve.At(c, x)
			left := last * x / 65535
			right := min(left+1, last)
			if value < before || value < c[left] || value > c[right] {
				t.Fatalf("At(%v, %d) is %d, after %d", c, x, value, before)
			}
			before = value
		}
	}
}

// P5.2: results in numbers, with halves that are rounded up.
func TestLine(t *testing.T) {
	for _, want := range []api.Curve{{0, 65535}, {0, 32768, 65535}, {0, 21845, 43690, 65535}, {0, 16384, 32768, 49151, 65535}, {0, 13107, 26214, 39321, 52428, 65535}, {0, 10923, 21845, 32768, 43690, 54613, 65535}} {
		if got := curve.Line(len(want)); !slices.Equal(got, want) {
			t.Errorf("Line(%d) is %v, not %v", len(want), got, want)
		}
	}
}

// P5.2 and P5.8: every valid number of points gives the arguments and a valid curve that differs from the identity by at most 1.
func TestLineOfAllNumbersOfPoints(t *testing.T) {
	identity := api.Curve{0, 65535}
	for n := 2; n <= 257; n++ {
		line := curve.Line(n)
		want := generated(n, func(i int) int { return argument(i, n) })
		if !slices.Equal(line, want) || !curve.Valid(line) {
			t.Errorf("Line(%d) is %v, not %v", n, line, want)
		}
		if difference := curve.Error(line, identity); difference > 1 {
			t.Errorf("Line(%d) differs by %d", n, difference)
		}
	}
}

// P5.2: other numbers of points give nil.
func TestLineOfInvalidNumbersOfPoints(t *testing.T) {
	for _, n := range invalidCounts() {
		if line := curve.Line(n); line != nil {
			t.Errorf("Line(%d) has %d points", n, len(line))
		}
	}
}

// P5.5: results in numbers; the order of the curves counts, and each value is rounded.
func TestThen(t *testing.T) {
	for _, x := range []struct{ a, b, want api.Curve }{
		{api.Curve{0, 65535}, api.Curve{100, 300}, api.Curve{100, 200, 300}},
		{api.Curve{100, 300}, api.Curve{0, 65535}, api.Curve{100, 200, 300}},
		{api.Curve{0, 0, 65535}, api.Curve{0, 65535, 65535}, api.Curve{0, 0, 43690, 65535}},
		{api.Curve{0, 65535, 65535}, api.Curve{0, 0, 65535}, api.Curve{0, 21845, 65535, 65535}},
		{api.Curve{0, 1}, api.Curve{0, 65535}, api.Curve{0, 0, 1, 1}},
		{api.Curve{0, 65535}, api.Curve{0, 1}, api.Curve{0, 0, 1, 1}},
		{api.Curve{9, 9}, api.Curve{65535, 65535}, api.Curve{65535, 65535}},
	} {
		got, err := curve.Then(x.a, x.b, len(x.want))
		if err != api.OK || !slices.Equal(got, x.want) {
			t.Errorf("Then(%v, %v, %d) is %v, %v, not %v", x.a, x.b, len(x.want), got, err, x.want)
		}
	}
}

// P5.5 and P5.8: every pair of curves, with various numbers of points.
func TestThenAppliesBothCurves(t *testing.T) {
	counts := validCounts()
	for i, a := range validCurves() {
		for j, b := range validCurves() {
			n := counts[(i+j)%len(counts)]
			got, err := curve.Then(a, b, n)
			want := generated(n, func(i int) int { return exactAt(b, exactAt(a, argument(i, n))) })
			if err != api.OK || !slices.Equal(got, want) || !curve.Valid(got) {
				t.Errorf("Then(%v, %v, %d) is %v, %v, not %v", a, b, n, got, err, want)
			}
		}
	}
}

// P5.5 and P1: an invalid curve comes before an invalid number of points; the curve is nil with an error.
func TestErrorsOfThen(t *testing.T) {
	good := api.Curve{0, 1}
	expect := func(a, b api.Curve, n int, want api.Errno) {
		t.Helper()
		if c, err := curve.Then(a, b, n); c != nil || err != want {
			t.Errorf("Then(%v, %v, %d) is %v, %v, not %v", a, b, n, c, err, want)
		}
	}
	for _, n := range invalidCounts() {
		expect(good, good, n, api.ErrArg)
	}
	for _, bad := range invalidCurves() {
		for _, n := range append(invalidCounts(), 2, 3, 257) {
			expect(bad, good, n, api.ErrCurve)
			expect(good, bad, n, api.ErrCurve)
			expect(bad, bad, n, api.ErrCurve)
		}
	}
}

// scannedError returns the greatest difference of two curves, argument by argument.
func scannedError(a, b api.Curve) int {
	largest := 0
	for x := range 65536 {
		if difference := curve.At(a, x) - curve.At(b, x); difference > largest {
			largest = difference
		} else if -difference > largest {
			largest = -difference
		}
	}
	return largest
}

// P5.6: results in numbers; the greatest difference may be at either end, within a curve, or next to a point only.
func TestError(t *testing.T) {
	for _, x := range []struct {
		a, b api.Curve
		want int
	}{
		{api.Curve{0, 65535}, api.Curve{0, 0, 65535}, 32767},
		{api.Curve{0, 65535}, api.Curve{0, 65535, 65535}, 32767},
		{api.Curve{0, 9}, api.Curve{5, 9}, 5},
		{api.Curve{0, 9}, api.Curve{0, 2}, 7},
		{api.Curve{0, 0}, api.Curve{65535, 65535}, 65535},
		{api.Curve{0, 1}, api.Curve{0, 0, 1}, 1},
		// 33 at each point, but 100 is reached a little before the second one.
		{api.Curve{0, 100, 100, 200}, api.Curve{0, 200}, 34},
		// Equal points, but between them the values are rounded differently.
		{api.Curve{0, 5}, api.Curve{0, 2, 5}, 1},
	} {
		if got, back := curve.Error(x.a, x.b), curve.Error(x.b, x.a); got != x.want || back != x.want {
			t.Errorf("Error(%v, %v) is %d, and exchanged %d, not %d", x.a, x.b, got, back, x.want)
		}
	}
}

// P5.6: each curve against each other one, argument by argument; a curve has no distance from itself.
func TestErrorIsTheGreatestDifference(t *testing.T) {
	curves := validCurves()
	for i, a := range curves {
		if got := curve.Error(a, slices.Clone(a)); got != 0 {
			t.Errorf("Error of %v and itself is %d", a, got)
		}
		b := curves[(5*i+3)%len(curves)]
		if got, want := curve.Error(a, b), scannedError(a, b); got != want {
			t.Errorf("Error(%v, %v) is %d, not %d", a, b, got, want)
		}
	}
}

// P5.6 with P5.1: the values of an invalid curve are 0, so that the distance from it is the greatest value.
func TestErrorOfInvalidCurves(t *testing.T) {
	for _, bad := range invalidCurves() {
		for _, good := range []api.Curve{{7, 9}, {0, 0}, {0, 65535}, {65535, 65535}, {0, 3, 500}} {
			last := good[len(good)-1]
			if got, back := curve.Error(bad, good), curve.Error(good, bad); got != last || back != last {
				t.Errorf("Error(%v, %v) is %d, and exchanged %d", bad, good, got, back)
			}
		}
		if got := curve.Error(bad, bad); got != 0 {
			t.Errorf("Error of %v and itself is %d", bad, got)
		}
		if got := curve.Error(bad, nil); got != 0 {
			t.Errorf("Error(%v, nil) is %d", bad, got)
		}
	}
}

// allCalls makes each call once with these curves, and returns the curves that are returned.
func allCalls(a, b api.Curve, n int) []api.Curve {
	curve.Valid(a)
	curve.At(a, n)
	curve.Solve(a, n)
	curve.Error(a, b)
	inverse, _ := curve.Inverse(a, n)
	both, _ := curve.Then(a, b, n)
	gamma, _ := curve.Gamma(2, 3, n)
	return []api.Curve{curve.Line(n), inverse, both, gamma}
}

// R3: arguments stay as they are, also beyond their lengths, and results share no memory with them or with each other.
func TestArgumentsAndResultsAreKeptApart(t *testing.T) {
	for _, c := range append(validCurves(), invalidCurves()...) {
		memory := append(slices.Clone(c), 11, 12, 13)
		before, a := slices.Clone(memory), memory[:len(c)]
		results := allCalls(a, a, 17)
		for _, result := range append(results, allCalls(a, a, 17)...) {
			for i := range result {
				result[i] = -7
			}
		}
		if !slices.Equal(memory, before) {
			t.Errorf("%v is changed to %v", before, memory)
		}
		for _, result := range results {
			for i := range result {
				result[i] = i
			}
		}
		if len(results[0]) != 17 || len(results[3]) != 17 || results[0][16] != 16 || results[3][0] != 0 {
			t.Errorf("results of %v share memory", before)
		}
	}
}

// R4: the same calls return the same results, also after calls with other arguments.
func TestResultsDependOnTheArgumentsOnly(t *testing.T) {
	equal := func(a, b api.Curve) bool { return slices.Equal(a, b) }
	for _, c := range validCurves() {
		first := allCalls(c, api.Curve{7, 9, 50000}, 9)
		allCalls(api.Curve{1, 2, 3}, nil, 258)
		if second := allCalls(c, api.Curve{7, 9, 50000}, 9); !slices.EqualFunc(first, second, equal) {
			t.Errorf("the calls with %v return %v and then %v", c, first, second)
		}
	}
}

// P1: no call panics or fails to terminate, whatever its input is, and the results keep to the rules that have no exceptions.
func FuzzCurvesFollowTheirRules(f *testing.F) {
	f.Add(0, 65535, 0, 65535, 2, 49151)
	f.Add(10, 20, 20, 20, 257, 15)
	f.Add(5, 4, -1, 65536, 258, least)
	f.Add(least, greatest, greatest, least, greatest, greatest)
	f.Fuzz(func(t *testing.T, p0, p1, p2, p3, n, x int) {
		c := api.Curve{p0, p1, p2, p3}
		valid := p0 >= 0 && p0 <= p1 && p1 <= p2 && p2 <= p3 && p3 <= 65535
		if curve.Valid(c) != valid {
			t.Errorf("Valid(%v) is %v", c, !valid)
		}
		clamped, value := min(max(x, 0), 65535), curve.At(c, x)
		if value != curve.At(c, clamped) || value < 0 || value > 65535 || !valid && value != 0 {
			t.Errorf("At(%v, %d) is %d", c, x, value)
		}
		if solved, ok := curve.Solve(c, x); ok && curve.At(c, solved) < x || ok != (valid && x <= p3) {
			t.Errorf("Solve(%v, %d) is %d, %v", c, x, solved, ok)
		}
		inverse, inverseErr := curve.Inverse(c, n)
		both, bothErr := curve.Then(c, c, n)
		if inverseErr != bothErr || curve.Valid(inverse) != (inverseErr == api.OK) || curve.Valid(both) != (bothErr == api.OK) {
			t.Errorf("Inverse and Then of %v and %d are %v and %v", c, n, inverseErr, bothErr)
		}
		gamma, gammaErr := curve.Gamma(p0, p3, n)
		if curve.Valid(gamma) != (gammaErr == api.OK) || curve.Valid(curve.Line(n)) != (n >= 2 && n <= 257) {
			t.Errorf("Gamma(%d, %d, %d) is %v, %v", p0, p3, n, gamma, gammaErr)
		}
		if distance := curve.Error(c, curve.Line(n)); distance < 0 || distance > 65535 {
			t.Errorf("Error of %v and a line is %d", c, distance)
		}
	})
}
