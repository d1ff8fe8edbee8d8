// Package drill: records in a shard, and a small learner that goes through them: see DOC.md.
package drill

import (
	"drill/api"
	"drill/learn"
	"drill/order"
	"drill/records"
	"drill/saves"
)

// Run is a learner on its way.
type Run struct {
	config   api.Config
	mark     string
	examples []api.Example
	steps    int
	learner  learn.Learner
}

// Frame gives the frame of an example (P3).
func Frame(e api.Example) (string, api.Errno) { return records.Frame(e) }

// Scan finds the records of a shard (P4).
func Scan(shard string) ([]api.Record, []api.Gap, api.Errno) { return records.Scan(shard) }

// Place gives the place of a number in an order (P5).
func Place(seed uint64, n uint32, i uint32) (uint32, api.Errno) { return order.Place(seed, n, i) }

// Back gives the number that has a place in an order (P6).
func Back(seed uint64, n uint32, i uint32) (uint32, api.Errno) { return order.Back(seed, n, i) }

// New begins a run (P7).
func New(c api.Config, shard string) (*Run, api.Errno) {
	found, _, err := records.Scan(shard)
	if err != api.OK {
		return nil, err
	}
	if !inBounds(c) {
		return nil, api.ErrConfig
	}
	if len(found) == 0 {
		return nil, api.ErrEmpty
	}
	mark := saves.Mark(c, shard)
	examples := examplesOf(found)
	return &Run{config: c, mark: mark, examples: examples}, api.OK
}

// Draw gives the record of a draw (P8).
func (r *Run) Draw(j int) (int, api.Errno) {
	if j < 0 || j > api.MaxSteps*api.MaxBatch {
		return 0, api.ErrRange
	}
	return r.drawn(j), api.OK
}

// Step makes a step (P11).
func (r *Run) Step(workers int) ([]int, api.Errno) {
	if workers < 1 || workers > api.MaxWorkers {
		return nil, api.ErrWorkers
	}
	if r.steps >= api.MaxSteps {
		return nil, api.ErrLimit
	}
	batch := int(r.config.Batch)
	var pull learn.Pull
	var missed []int
	for k := 0; k < workers; k++ {
		count := r.rows(k*batch/workers, (k+1)*batch/workers, &pull)
		missed = append(missed, count)
	}
	r.learner.Move(pull, r.config)
	r.steps++
	return missed, api.OK
}

// Status tells where the run stands (P12).
func (r *Run) Status() api.Status {
	next := r.nextDraw()
	epoch, row := r.epochAndRow(next)
	return api.Status{Step: r.steps, Epoch: epoch, Row: row}
}

// Weights gives the weights of a class (P12).
func (r *Run) Weights(class int) ([]int32, api.Errno) {
	if class < 0 || class >= api.Classes {
		return nil, api.ErrLabel
	}
	var weights []int32
	for _, weight := range r.learner.Weights[class] {
		weights = append(weights, weight)
	}
	return weights, api.OK
}

// Guess tells the class of a text, and its score (P12).
func (r *Run) Guess(text string) (int, int64, api.Errno) {
	if len(text) > api.MaxText {
		return 0, 0, api.ErrText
	}
	class, score := r.learner.Guess(text)
	return class, score, api.OK
}

// Save gives the run as bytes (P13).
func (r *Run) Save() string {
	return saves.Write(saves.State{Mark: r.mark, Steps: r.steps, Learner: r.learner})
}

// Load gives the run that was saved (P14).
func Load(c api.Config, shard string, save string) (*Run, api.Errno) {
	run, err := New(c, shard)
	if err != api.OK {
		return nil, err
	}
	state, ok := saves.Read(save)
	if !ok {
		return nil, api.ErrSave
	}
	if state.Mark != run.mark {
		return nil, api.ErrOther
	}
	run.steps = state.Steps
	run.learner = state.Learner
	return run, api.OK
}
