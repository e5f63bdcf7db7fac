package predict

import "gouache/api"

// ruleCount is the number of predictors.
const ruleCount = 6

// rule is a predictor. It computes with integers, because the sums of neighbours and the distances between them must not wrap around.
type rule struct {
	predict func(left, up, corner int) int
}

// rules returns the predictors by their numbers.
func rules() [ruleCount]rule {
	return [ruleCount]rule{
		{func(_, _, _ int) int { return 0 }},
		{func(left, _, _ int) int { return left }},
		{func(_, up, _ int) int { return up }},
		{func(left, up, _ int) int { return (left + up) / 2 }},
		{predictPaeth},
		{predictMED},
	}
}

// predictPaeth returns the neighbour nearest to the value that continues the slope of all three.
func predictPaeth(left, up, corner int) int {
	return nearest(left+up-corner, left, up, corner)
}

// predictMED continues the slope of all three neighbours, but only as far as the left and the upper one: beyond them it takes the slope for an edge.
func predictMED(left, up, corner int) int {
	low, high := min(left, up), max(left, up)
	switch {
	case corner >= high:
		return low
	case corner <= low:
		return high
	}
	return left + up - corner
}

// nearest returns the value that is nearest to target, the first one of several.
func nearest(target, first int, others ...int) int {
	distance := func(value int) int { return max(value-target, target-value) }
	best := first
	for _, value := range others {
		if distance(value) < distance(best) {
			best = value
		}
	}
	return best
}

// residuals returns the differences between the values of a plane and their predictions.
func (r rule) residuals(values plane) plane {
	var residuals plane
	prediction := r.predictionIn(&values)
	for i, value := range values {
		residuals[i] = value - prediction(i)
	}
	return residuals
}

// values returns the values of the plane that has these residuals. Each prediction needs only values that are known by then.
func (r rule) values(residuals plane) plane {
	var values plane
	prediction := r.predictionIn(&values)
	for i, residual := range residuals {
		values[i] = residual + prediction(i)
	}
	return values
}

// predictionIn returns a function that predicts the value at an index from those that a plane has before it at the time of the call.
func (r rule) predictionIn(values *plane) func(i int) uint8 {
	neighbours := neighboursIn(values)
	return func(i int) uint8 {
		return uint8(r.predict(neighbours(i)))
	}
}

// neighboursIn returns a function that looks up the neighbours of the value at an index of a plane. In the first row and in the first column, the one neighbour there is stands for all three.
func neighboursIn(values *plane) func(i int) (left, up, corner int) {
	at := func(x, y int) int { return int(values[api.TileSize*y+x]) }
	return func(i int) (left, up, corner int) {
		x, y := i%api.TileSize, i/api.TileSize
		switch {
		case x > 0 && y > 0:
			return at(x-1, y), at(x, y-1), at(x-1, y-1)
		case x > 0:
			left = at(x-1, y)
			return left, left, left
		case y > 0:
			up = at(x, y-1)
			return up, up, up
		}
		return 0, 0, 0
	}
}
