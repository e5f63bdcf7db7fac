package curve_test

import (
	"math/big"
	"slices"
	"testing"

	"gouache/api"
	"gouache/curve"
)

// power returns (a/b)^p.
func power(a, b, p int) *big.Rat {
	exponent := big.NewInt(int64(p))
	return new(big.Rat).SetFrac(new(big.Int).Exp(big.NewInt(int64(a)), exponent, nil), new(big.Int).Exp(big.NewInt(int64(b)), exponent, nil))
}

// isRoot reports whether y is the largest integer in 0..65535 with (y/65535)^den <= (i/(n-1))^num.
func isRoot(y, i, num, den, n int) bool {
	bound := power(i, n-1, num)
	fits := func(y int) bool { return power(y, 65535, den).Cmp(bound) <= 0 }
	return y >= 0 && y <= 65535 && fits(y) && (y == 65535 || !fits(y+1))
}

// P5.7: results in numbers, rounded down, with exact roots and powers.
func TestGamma(t *testing.T) {
	for _, x := range []struct {
		num, den int
		want     api.Curve
	}{
		{2, 1, api.Curve{0, 16383, 65535}}, {1, 2, api.Curve{0, 46340, 65535}}, {1, 1, api.Curve{0, 21845, 43690, 65535}}, {8, 8, api.Curve{0, 32767, 65535}}, {1, 1, api.Curve{0, 65535}},
		{1, 1, api.Curve{0, 16383, 32767, 49151, 65535}}, {3, 1, api.Curve{0, 8191, 65535}}, {8, 1, api.Curve{0, 255, 65535}}, {1, 8, api.Curve{0, 60095, 65535}},
		{8, 1, api.Curve{0, 9, 2557, 65535}}, {2, 1, api.Curve{0, 2621, 10485, 23592, 41942, 65535}}, {2, 4, api.Curve{0, 46340, 65535}}, {1, 2, api.Curve{0, 32767, 46340, 56754, 65535}},
	} {
		got, err := curve.Gamma(x.num, x.den, len(x.want))
		if err != api.OK || !slices.Equal(got, x.want) {
			t.Errorf("Gamma(%d, %d, %d) is %v, %v, not %v", x.num, x.den, len(x.want), got, err, x.want)
		}
	}
}

// P5.7 and P5.8: every exponent, with few and many points, against rational numbers of arbitrary size.
func TestGammaIsExact(t *testing.T) {
	for num := 1; num <= 8; num++ {
		for den := 1; den <= 8; den++ {
			for _, n := range []int{2, 3, 4, 6, 17, 52, 256, 257} {
				c, err := curve.Gamma(num, den, n)
				if err != api.OK || len(c) != n || !curve.Valid(c) || c[0] != 0 || c[n-1] != 65535 {
					t.Fatalf("Gamma(%d, %d, %d) is %v, %v", num, den, n, c, err)
				}
				for i, y := range c {
					if !isRoot(y, i, num, den, n) {
						t.Errorf("Gamma(%d, %d, %d) has %d at %d", num, den, n, y, i)
					}
				}
			}
		}
	}
}

// P5.7: equal exponents give equal curves, and every number of points is possible.
func TestGammaOfAllNumbersOfPoints(t *testing.T) {
	for n := 2; n <= 257; n++ {
		want := generated(n, func(i int) int { return 65535 * i / (n - 1) })
		for _, p := range []int{1, 5, 8} {
			if got, err := curve.Gamma(p, p, n); err != api.OK || !slices.Equal(got, want) {
				t.Errorf("Gamma(%d, %d, %d) is %v, %v, not %v", p, p, n, got, err, want)
			}
		}
	}
}

// P5.7: each argument out of range alone and with others; the curve is nil with an error.
func TestErrorsOfGamma(t *testing.T) {
	expectError := func(num, den, n int) {
		t.Helper()
		if c, err := curve.Gamma(num, den, n); c != nil || err != api.ErrArg {
			t.Errorf("Gamma(%d, %d, %d) is %v, %v", num, den, n, c, err)
		}
	}
	for _, bad := range []int{0, -1, -8, 9, 10, 16, 256, 1 << 32, 1<<32 + 1, -1<<32 + 1, least, least + 1, greatest} {
		for _, good := range []int{1, 2, 8} {
			for _, n := range []int{2, 17, 257} {
				expectError(bad, good, n)
				expectError(good, bad, n)
				expectError(bad, bad, n)
			}
		}
		expectError(bad, bad, 258)
	}
	for _, n := range invalidCounts() {
		for _, p := range []int{1, 8, 0, 9} {
			expectError(p, 1, n)
			expectError(1, p, n)
			expectError(p, p, n)
		}
	}
}
