// Package saves: where a run stands, as bytes.
package saves

import (
	"drill/api"
	"drill/learn"
	"drill/wire"
)

const head = "DRL1"

// State is what a save tells of a run.
type State struct {
	// Mark is the run's mark as it is written, wire.SumSize bytes.
	Mark    string
	Steps   int
	Learner learn.Learner
}

// Mark gives the mark of the run of these settings and this shard (P13).
func Mark(c api.Config, shard string) string {
	seedLow := wire.LowFirst(uint32(c.Seed))
	seedHigh := wire.LowFirst(uint32(c.Seed >> 32))
	batch := string([]byte{c.Batch})
	rate := wire.LowFirst(uint32(c.Rate))
	momentum := wire.LowFirst(uint32(c.Momentum))
	decay := string([]byte{c.Decay})
	return wire.SumBytes(seedLow + seedHigh + batch + rate + momentum + decay + shard)
}

// Write gives the save of a state (P13).
func Write(s State) string {
	steps := wire.Varint(uint64(s.Steps))
	wide := widened(s.Learner.Weights)
	weights := tableBytes(wide)
	speeds := tableBytes(table{of: s.Learner.Speeds})
	bytes := head + s.Mark + steps + weights + speeds
	sum := wire.SumBytes(bytes)
	return bytes + sum
}

// Read gives the state that a save tells, or false if it is none by its form (P14).
func Read(save string) (State, bool) {
	markTo := len(head) + wire.SumSize
	if len(save) < markTo || save[:len(head)] != head {
		return State{}, false
	}
	steps, stepsTo, ok := wire.ReadVarint(save, markTo)
	if !ok || steps > api.MaxSteps {
		return State{}, false
	}
	weights, weightsTo, ok := readTable(save, stepsTo, api.Cap)
	if !ok {
		return State{}, false
	}
	speeds, to, ok := readTable(save, weightsTo, learn.SpeedCap)
	if !ok || !endsInSum(save, to) {
		return State{}, false
	}
	mark := save[len(head):markTo]
	learner := learn.Learner{Weights: narrowed(weights), Speeds: speeds.of}
	return State{Mark: mark, Steps: int(steps), Learner: learner}, true
}

// endsInSum tells whether the sum of all bytes before a place stands there, and
// nothing behind it.
func endsInSum(save string, at int) bool {
	if at < 0 || at > len(save) {
		return false
	}
	sum := wire.SumBytes(save[:at])
	return sum == save[at:]
}
