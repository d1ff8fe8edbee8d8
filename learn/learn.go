// Package learn: a learner that tells the classes of texts by weights, all in
// whole numbers.
package learn

import "drill/api"

const (
	// SpeedCap is the most that a speed can be, up or down. Speeds are counted
	// in 64ths of a weight.
	SpeedCap = api.Cap * 64

	noClass = -1
)

// Learner has a weight and a speed for each class and each bucket.
type Learner struct {
	Weights [api.Classes][api.Buckets]int32
	Speeds  [api.Classes][api.Buckets]int64
}

// Pull is where the rows of a step that missed draw the weights: the G of P11.
type Pull struct {
	of [api.Classes][api.Buckets]int64
}

// Row tells whether an example misses, and adds it to the pull if it does (P10,
// P11). The learner stays as it is, so that all rows of a step meet the same
// weights.
func (l *Learner) Row(e api.Example, pull *Pull) bool {
	if e.Label >= api.Classes {
		return false
	}
	label := int(e.Label)
	found := countsOf(e.Text)
	scores := l.scores(found)
	rival := greatest(scores, label)
	if scores[label]-scores[rival] >= api.One {
		return false
	}
	for bucket, count := range found.of {
		pull.of[label][bucket] += count
		pull.of[rival][bucket] -= count
	}
	return true
}

// Guess gives the class with the greatest score for a text, and that score (P12).
func (l *Learner) Guess(text string) (int, int64) {
	found := countsOf(text)
	scores := l.scores(found)
	class := greatest(scores, noClass)
	return class, scores[class]
}

// Move lets the pull of a step change the speeds, and these the weights (P11).
func (l *Learner) Move(pull Pull, c api.Config) {
	for class := 0; class < api.Classes; class++ {
		for bucket := 0; bucket < api.Buckets; bucket++ {
			speed := nextSpeed(l.Speeds[class][bucket], pull.of[class][bucket], c)
			weight := nextWeight(l.Weights[class][bucket], speed, c)
			l.Speeds[class][bucket] = speed
			l.Weights[class][bucket] = weight
		}
	}
}

func nextSpeed(speed int64, pull int64, c api.Config) int64 {
	kept := (speed * int64(c.Momentum)) >> 16
	return cut(kept+pull*int64(c.Rate), SpeedCap)
}

func nextWeight(weight int32, speed int64, c api.Config) int32 {
	before := int64(weight)
	lost := int64(0)
	if c.Decay > 0 {
		lost = before >> c.Decay
	}
	after := cut(before+(speed>>6)-lost, api.Cap)
	return int32(after)
}

func cut(x int64, most int64) int64 {
	if x > most {
		return most
	}
	if x < -most {
		return -most
	}
	return x
}

func (l *Learner) scores(found counts) [api.Classes]int64 {
	var scores [api.Classes]int64
	for class, weights := range l.Weights {
		for bucket, weight := range weights {
			scores[class] += found.of[bucket] * int64(weight)
		}
	}
	return scores
}

// greatest gives the class with the greatest score (the least of such) of all
// others than the one left out.
func greatest(scores [api.Classes]int64, leftOut int) int {
	best := 0
	if leftOut == 0 {
		best = 1
	}
	for class := best + 1; class < api.Classes; class++ {
		if class != leftOut && scores[class] > scores[best] {
			best = class
		}
	}
	return best
}
