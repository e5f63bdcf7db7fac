package coder

const (
	contextCount       = 256
	certainty          = 1 << 12 // the probability of what is certain
	initialProbability = certainty / 2
	inertia            = 32 // a bit moves a probability by one part in this many of what it could move
)

// model estimates how probable a bit 1 is in each context. It keeps the differences from the initial probabilities, so that its zero value is the initial model.
type model struct {
	differences [contextCount]int
}

// probability returns how probable a bit 1 is in a context, from 0 to certainty.
func (m *model) probability(context int) int {
	return initialProbability + m.differences[slot(context)]
}

// learn makes a bit more probable in a context.
func (m *model) learn(context, bit int) {
	p := m.probability(context)
	if bit == 1 {
		m.differences[slot(context)] += (certainty - p) / inertia
	} else {
		m.differences[slot(context)] -= p / inertia
	}
}

// slot returns a context modulo contextCount, which is the number of the values of a byte.
func slot(context int) uint8 {
	return uint8(context)
}
