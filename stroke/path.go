package stroke

import (
	"iter"
	"sort"

	"gouache/api"
	"gouache/rect"
)

// segment is the line from a point of a stroke to the next one.
type segment struct {
	from, to api.StrokePoint
	length   int
}

// dabs yields the dabs of a stroke, and none if it is not valid.
func dabs(s api.Stroke) iter.Seq[api.Dab] {
	return func(yield func(api.Dab) bool) {
		if !Valid(s) {
			return
		}
		for p := range centres(s) {
			if !yield(api.Dab{X: p.X, Y: p.Y, Radius: round(s.Radius*p.Pressure, maxPressure)}) {
				return
			}
		}
	}
}

// centres yields the centres of the dabs of a valid stroke, with the pressures there.
func centres(s api.Stroke) iter.Seq[api.StrokePoint] {
	return func(yield func(api.StrokePoint) bool) {
		if len(s.Points) == 1 {
			yield(s.Points[0])
			return
		}
		// The distance to the next dab is counted from the beginning of each segment. If it does not lie on the segment, it lies on a later one.
		next := s.Phase
		for g := range segments(s.Points) {
			for ; next < g.length; next += s.Spacing {
				if !yield(g.at(next)) {
					return
				}
			}
			next -= g.length
		}
	}
}

// segments yields the segments between points within the limits.
func segments(points []api.StrokePoint) iter.Seq[segment] {
	return func(yield func(segment) bool) {
		for i := range len(points) - 1 {
			from, to := points[i], points[i+1]
			if !yield(segment{from, to, hypotenuse(to.X-from.X, to.Y-from.Y)}) {
				return
			}
		}
	}
}

// at returns the point at a distance from the beginning of the segment that is less than its length.
func (g segment) at(distance int) api.StrokePoint {
	between := func(from, to int) int { return from + round((to-from)*distance, g.length) }
	return api.StrokePoint{
		X:        between(g.from.X, g.to.X),
		Y:        between(g.from.Y, g.to.Y),
		Pressure: between(g.from.Pressure, g.to.Pressure),
	}
}

// totalLength returns the length of the line through points within the limits.
func totalLength(points []api.StrokePoint) int {
	total := 0
	for g := range segments(points) {
		total += g.length
	}
	return total
}

// dabsBefore returns how many of the distances of the dabs of a stroke with several points are less than a length.
func dabsBefore(s api.Stroke, length int) int {
	return rect.Ceil(max(length-s.Phase, 0), s.Spacing)
}

// hypotenuse returns the square root of dx^2 + dy^2, rounded down.
func hypotenuse(dx, dy int) int {
	square := dx*dx + dy*dy
	// The straight way is not longer than the one along the axes.
	return sort.Search(max(dx, -dx)+max(dy, -dy), func(n int) bool { return (n+1)*(n+1) > square })
}

// round returns n / d for a positive d, rounded to the nearest integer, halves upwards.
func round(n, d int) int {
	return rect.Floor(2*n+d, 2*d)
}
