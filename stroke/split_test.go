package stroke_test

import (
	"slices"
	"testing"

	"gouache/api"
	"gouache/stroke"
)

// split returns the halves of a stroke, without an error.
func split(t *testing.T, s api.Stroke, index int) (a, b api.Stroke) {
	t.Helper()
	a, b, err := stroke.Split(s, index)
	if err != api.OK {
		t.Fatalf("Split of %v at %d returns the error %d", s, index, err)
	}
	return a, b
}

// P14.6: the example of the chapter.
func TestSplit(t *testing.T) {
	s := brush(16, 40, 10, pressed(0, 0, 100, 0, 100, 30)...)
	expectSplit(t, s, 1, brush(16, 40, 10, pressed(0, 0, 100, 0)...), brush(16, 40, 30, pressed(100, 0, 100, 30)...), api.OK)
	_, b := split(t, s, 1)
	expectDabs(t, b)
}

// P14.6: the point at which a stroke is split.
func TestSplitAt(t *testing.T) {
	for n := 1; n <= 64; n++ {
		s := brush(16, 40, 10, winding(n)...)
		for _, at := range []int{least, least + 1, -n, -2, -1, 0, n - 1, n, n + 1, 64, 1<<32 + 1, greatest} {
			expectSplit(t, s, at, api.Stroke{}, api.Stroke{}, api.ErrArg)
		}
		for at := 1; at <= n-2; at++ {
			a, b, err := halves(s, at)
			if err != api.OK || len(a.Points) != at+1 || len(b.Points) != n-at || a.Points[at] != b.Points[0] {
				t.Fatalf("the model splits %v into %v and %v", s, a, b)
			}
			expectSplit(t, s, at, a, b, api.OK)
		}
	}
}

// P14.6: all fields but the points and the phase are kept in both halves.
func TestSplitKeepsFields(t *testing.T) {
	for _, s := range []api.Stroke{
		brush(1, 1, 0, winding(3)...), brush(256, 4096, 1048575, winding(4)...), erasing(coloured(brush(7, 9, 11, winding(9)...), of(1, 2, 3, 4))), coloured(brush(7, 9, 11, winding(9)...), of(9, 8, 7, 0)),
	} {
		a, b := split(t, s, 1)
		if a.Phase != s.Phase {
			t.Errorf("the first half of %v has the phase %d", s, a.Phase)
		}
		for _, half := range []api.Stroke{a, b} {
			half.Points, half.Phase = s.Points, s.Phase
			if !isSame(half, s) {
				t.Errorf("a half of %v differs: %v", s, half)
			}
		}
	}
}

// P14.6: the phase of the second half, for a first half of the length 100.
func TestSplitPhase(t *testing.T) {
	for _, x := range []struct{ spacing, phase, want int }{
		{40, 10, 30}, {40, 19, 39}, {40, 20, 0}, {40, 21, 1}, {40, 0, 20},
		{1, 0, 0}, {1, 99, 0}, {1, 100, 0}, {1, 101, 1}, {3, 101, 1}, {3, 100, 0}, {3, 99, 2}, {3, 98, 1}, {3, 97, 0},
		{100, 0, 0}, {100, 1, 1}, {99, 0, 98}, {101, 0, 1}, {4096, 0, 3996}, {4096, 99, 4095}, {4096, 100, 0}, {4096, 150, 50}, {4096, 1048575, 1048475}, {1, 1048575, 1048475}, {50, 0, 0}, {50, 50, 0}, {50, 51, 1}, {50, 49, 49},
	} {
		s := brush(16, x.spacing, x.phase, pressed(0, 0, 60, 0, 60, 40, 60, 55, 0, 0)...)
		a, b := split(t, s, 2)
		if a.Phase != x.phase || b.Phase != x.want {
			t.Errorf("the halves of %v have the phases %d and %d, not %d and %d", s, a.Phase, b.Phase, x.phase, x.want)
		}
	}
}

// P14.6: segments of length 0 on either side of the split.
func TestSplitBesideEmptySegments(t *testing.T) {
	s := brush(255, 5, 0, at(0, 0, 1), at(0, 0, 2), at(10, 0, 3), at(10, 0, 4), at(10, 0, 5), at(10, 7, 6), at(10, 7, 7))
	for at, want := range map[int]int{1: 0, 2: 0, 3: 0, 4: 0, 5: 3} {
		if _, b := split(t, s, at); b.Phase != want {
			t.Errorf("split at %d, the second half has the phase %d, not %d", at, b.Phase, want)
		}
	}
	same := brush(255, 5, 3, slices.Repeat(pressed(4, 4), 5)...)
	for at := 1; at <= 3; at++ {
		if a, b := split(t, same, at); a.Phase != 3 || b.Phase != 3 {
			t.Errorf("split at %d, the halves have the phases %d and %d", at, a.Phase, b.Phase)
		}
	}
}

// P14.6: strokes that are not valid are not split, wherever.
func TestSplitOfInvalidStrokes(t *testing.T) {
	for _, s := range invalidStrokes() {
		for at := -1; at <= len(s.Points); at++ {
			expectSplit(t, s, at, api.Stroke{}, api.Stroke{}, api.ErrArg)
		}
	}
}

// expectHalves reports halves whose dabs, or what they paint, are not those of the stroke.
func expectHalves(t *testing.T, r api.Raster, s api.Stroke, at int) {
	t.Helper()
	a, b := split(t, s, at)
	if !stroke.Valid(a) || !stroke.Valid(b) {
		t.Fatalf("the halves of %v at %d are %v and %v, and not valid", s, at, a, b)
	}
	if got, want := slices.Concat(stroke.Dabs(a), stroke.Dabs(b)), stroke.Dabs(s); !slices.Equal(got, want) {
		t.Fatalf("the halves of %v at %d have the dabs %v, not %v", s, at, got, want)
	}
	want, err := stroke.Paint(r, s)
	one, errOne := stroke.Paint(r, a)
	if errOne != api.OK {
		expectPaint(t, r, s, api.Raster{}, errOne)
		return
	}
	expectPaint(t, one, b, want, err)
}

// P14.8: a stroke and its halves have the same dabs, and paint the same.
func TestHalvesAreTheStroke(t *testing.T) {
	back := scatteredRaster(1, 12)
	for _, s := range validStrokes() {
		for at := 1; at <= len(s.Points)-2; at += 1 + len(s.Points)/8 {
			expectHalves(t, back, s, at)
		}
	}
	for seed := range 300 {
		s := scatteredStroke(seed)
		for at := 1; at <= len(s.Points)-2; at++ {
			expectHalves(t, back, s, at)
		}
	}
}

// P14.8: dabs at the point of the split, just before and just behind it, belong to one half only.
func TestHalvesOfDabsAtTheSplit(t *testing.T) {
	for phase := range 30 {
		for spacing := 1; spacing < 30; spacing++ {
			s := coloured(brush(30, spacing, phase, at(0, 0, 10), at(11, 0, 255), at(11, 9, 30), at(11, 9, 60), at(0, 5, 200)), of(50, 100, 150, 80))
			for at := 1; at <= 3; at++ {
				expectHalves(t, api.Raster{}, s, at)
			}
		}
	}
}

// P14.8: halves without a dab.
func TestHalvesWithoutDabs(t *testing.T) {
	for _, s := range []api.Stroke{
		brush(16, 40, 10, pressed(0, 0, 100, 0, 100, 30)...), brush(16, 40, 100, pressed(0, 0, 100, 0, 100, 30)...), brush(16, 40, 129, pressed(0, 0, 100, 0, 100, 30)...), brush(16, 40, 130, pressed(0, 0, 100, 0, 100, 30)...), brush(16, 40, 1048575, pressed(0, 0, 100, 0, 100, 30)...), brush(16, 40, 0, pressed(5, 5, 5, 5, 5, 5)...), brush(16, 40, 0, pressed(5, 5, 5, 5, 9, 9)...), brush(16, 40, 0, pressed(5, 5, 9, 9, 9, 9)...),
	} {
		expectHalves(t, rows(2), s, 1)
	}
}

// P14.8: halves of halves, down to single segments.
func TestSegmentsAreTheStroke(t *testing.T) {
	for seed := range 100 {
		s := scatteredStroke(seed)
		var dabs []api.Dab
		rest := s
		for len(rest.Points) > 2 {
			var first api.Stroke
			first, rest = split(t, rest, 1)
			dabs = append(dabs, stroke.Dabs(first)...)
		}
		dabs = append(dabs, stroke.Dabs(rest)...)
		expectDabs(t, s, dabs...)
	}
}
