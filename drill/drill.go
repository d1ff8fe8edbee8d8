// Package drill: records in a shard, and a small learner that goes through them: see DOC.md.
package drill

import (
	"drill/api"
	"drill/order"
	"drill/records"
)

// Run is a learner on its way.
type Run struct{}

// Frame gives the frame of an example (P3).
func Frame(e api.Example) (string, api.Errno) { return records.Frame(e) }

// Scan finds the records of a shard (P4).
func Scan(shard string) ([]api.Record, []api.Gap, api.Errno) { return records.Scan(shard) }

// Place gives the place of a number in an order (P5).
func Place(seed uint64, n uint32, i uint32) (uint32, api.Errno) { return order.Place(seed, n, i) }

// Back gives the number that has a place in an order (P6).
func Back(seed uint64, n uint32, i uint32) (uint32, api.Errno) { return order.Back(seed, n, i) }

// New begins a run (P7).
func New(c api.Config, shard string) (*Run, api.Errno) { return nil, api.OK }

// Draw gives the record of a draw (P8).
func (r *Run) Draw(j int) (int, api.Errno) { return 0, api.OK }

// Step makes a step (P11).
func (r *Run) Step(workers int) ([]int, api.Errno) { return nil, api.OK }

// Status tells where the run stands (P12).
func (r *Run) Status() api.Status { return api.Status{} }

// Weights gives the weights of a class (P12).
func (r *Run) Weights(class int) ([]int32, api.Errno) { return nil, api.OK }

// Guess tells the class of a text, and its score (P12).
func (r *Run) Guess(text string) (int, int64, api.Errno) { return 0, 0, api.OK }

// Save gives the run as bytes (P13).
func (r *Run) Save() string { return "" }

// Load gives the run that was saved (P14).
func Load(c api.Config, shard string, save string) (*Run, api.Errno) { return nil, api.OK }
