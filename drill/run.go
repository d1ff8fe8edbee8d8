package drill

import (
	"drill/api"
	"drill/learn"
	"drill/order"
)

const maxDecay = 31

// inBounds tells whether a run can have these settings (P7).
func inBounds(c api.Config) bool {
	if c.Batch < 1 || c.Batch > api.MaxBatch {
		return false
	}
	if c.Rate < 0 || c.Rate > api.One {
		return false
	}
	if c.Momentum < 0 || c.Momentum > api.One-1 {
		return false
	}
	return c.Decay <= maxDecay
}

func examplesOf(found []api.Record) []api.Example {
	var examples []api.Example
	for _, record := range found {
		examples = append(examples, record.Example)
	}
	return examples
}

// nextDraw gives the draw with which the next step begins.
func (r *Run) nextDraw() int {
	return r.steps * int(r.config.Batch)
}

// epochAndRow gives the epoch of a draw, and its number in that epoch.
func (r *Run) epochAndRow(j int) (int, int) {
	n := len(r.examples)
	if n == 0 {
		return 0, 0
	}
	return j / n, j % n
}

// drawn gives the number of the record of a draw from 0 on (P8).
func (r *Run) drawn(j int) int {
	epoch, row := r.epochAndRow(j)
	seed := order.Mix(r.config.Seed + uint64(epoch))
	// The row is below the number of records, and a shard holds fewer of them
	// than an order may have: Place does not refuse.
	place, _ := order.Place(seed, uint32(len(r.examples)), uint32(row))
	return int(place)
}

// rows puts rows of the step that comes next to the learner, and tells how many
// of them missed.
func (r *Run) rows(from int, to int, pull *learn.Pull) int {
	first := r.nextDraw()
	missed := 0
	for row := from; row < to; row++ {
		number := r.drawn(first + row)
		if number >= len(r.examples) {
			continue
		}
		miss := r.learner.Row(r.examples[number], pull)
		if miss {
			missed++
		}
	}
	return missed
}
