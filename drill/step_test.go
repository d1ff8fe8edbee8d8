package drill_test

import (
	"slices"
	"strings"
	"testing"

	"drill/api"
	"drill/drill"
)

// follow makes steps of a run and of the plain one, and compares them at each.
func follow(t *testing.T, c api.Config, shard string, steps int, r *numbers) {
	t.Helper()
	run, p := newRun(t, c, shard), newPlainRun(c, shard)
	checkRun(t, run, p)
	for range steps {
		checkStep(t, run, p, 1+r.below(8))
		checkRun(t, run, p, r.mixedText(r.below(6)), p.examples[r.below(len(p.examples))].Text)
	}
}

func TestP11P12AnyRun(t *testing.T) {
	r := numbers{11}
	for range 120 {
		c := r.config()
		shard := r.shard(t, 1+r.below(12)) + frameOf(t, example(uint8(r.below(4)), "a"))
		follow(t, c, shard, 12, &r)
	}
}

func TestP11P12LongRuns(t *testing.T) {
	r := numbers{12}
	follow(t, api.Config{Seed: 1, Batch: 8, Rate: 65536, Momentum: 65535}, r.shard(t, 5), 400, &r)
	follow(t, api.Config{Seed: 2, Batch: 3, Rate: 65536, Momentum: 58982, Decay: 1}, r.shard(t, 40), 100, &r)
	follow(t, api.Config{Seed: 3, Batch: 1, Rate: 1, Momentum: 65535, Decay: 31}, r.shard(t, 3), 100, &r)
	follow(t, api.Config{Seed: 4, Batch: 8, Rate: 777, Momentum: 32768, Decay: 5}, r.shard(t, 85), 100, &r)
}

func TestP11TheFirstStepOfTheDocument(t *testing.T) {
	run := newRun(t, api.Config{Batch: 2, Rate: 65536}, shardOf(t, example(1, "a")))
	if l, err := run.Step(2); !slices.Equal(l, []int{1, 1}) || err != api.OK {
		t.Errorf("P11: Step(2) = %v, %d", l, err)
	}
	for class, want := range []int32{-2048, 2048, 0, 0} {
		l, err := run.Weights(class)
		for bucket, w := range l {
			if (bucket == 2 && w != want) || (bucket != 2 && w != 0) || err != api.OK {
				t.Errorf("P11: Weights(%d) = %v, %d", class, l, err)
			}
		}
	}
	if s := run.Status(); s != (api.Status{Step: 1, Epoch: 2}) {
		t.Errorf("P12: Status %+v", s)
	}
}

// Of equal scores the rival is the least class that is not the label.
func TestP10TheRivalIsTheLeastOfSuch(t *testing.T) {
	for label := range 4 {
		run := newRun(t, api.Config{Batch: 1, Rate: 64}, shardOf(t, example(uint8(label), "a")))
		// Each step sets the rival back, so the others take their turn.
		var others []int
		for class := range 4 {
			if class != label {
				others = append(others, class)
			}
		}
		for step := range 9 {
			before, _ := run.Weights(others[step%3])
			run.Step(1)
			after, _ := run.Weights(others[step%3])
			if after[2] != before[2]-1 {
				t.Errorf("P10: label %d, step %d: the weight of class %d went from %d to %d", label, step, others[step%3], before[2], after[2])
			}
		}
	}
}

// A step here adds d to the label's weight and takes d off the rival's, each of
// the three others in turn: after s steps the label is ahead by d times (s plus
// a third of s).
func TestP10MissesBelowOne(t *testing.T) {
	for _, c := range []struct {
		rate   int32
		steps  int
		ahead  int64
		misses int
	}{
		{32768, 12, 65536, 0}, // d is 4096
		{30840, 13, 65535, 8}, // d is 3855
		{30848, 13, 65552, 0}, // d is 3856
	} {
		run := newRun(t, api.Config{Batch: 8, Rate: c.rate}, shardOf(t, example(0, "a")))
		for step := range c.steps {
			if l, err := run.Step(1); !slices.Equal(l, []int{8}) || err != api.OK {
				t.Fatalf("P10: rate %d, step %d: %v, %d", c.rate, step, l, err)
			}
		}
		own, _ := run.Weights(0)
		most := int64(-1 << 62)
		for class := 1; class < 4; class++ {
			l, _ := run.Weights(class)
			most = max(most, int64(l[2]))
		}
		if int64(own[2])-most != c.ahead {
			t.Fatalf("P11: rate %d: ahead by %d, want %d", c.rate, int64(own[2])-most, c.ahead)
		}
		if l, err := run.Step(1); !slices.Equal(l, []int{c.misses}) || err != api.OK {
			t.Errorf("P10: ahead by %d: %v, %d, want %d misses", c.ahead, l, err, c.misses)
		}
	}
}

// An empty text has the score 0 in each class: it always misses, and moves nothing.
func TestP10AnEmptyTextMisses(t *testing.T) {
	run := newRun(t, api.Config{Batch: 3, Rate: 65536}, shardOf(t, example(2, "")))
	for range 5 {
		if l, err := run.Step(2); !slices.Equal(l, []int{1, 2}) || err != api.OK {
			t.Errorf("P10: %v, %d", l, err)
		}
	}
	if l, _ := run.Weights(2); !slices.Equal(l, make([]int32, 32)) {
		t.Errorf("P11: weights %v", l)
	}
}

// Both rows of a step are scored before either moves the weights: at this rate
// one of them would be enough for the other not to miss.
func TestP11RowsMeetTheWeightsBeforeTheStep(t *testing.T) {
	text := strings.Repeat("a", 100)
	run := newRun(t, api.Config{Batch: 8, Rate: 65536}, shardOf(t, example(1, text)))
	if l, err := run.Step(8); !slices.Equal(l, []int{1, 1, 1, 1, 1, 1, 1, 1}) || err != api.OK {
		t.Errorf("P11: %v, %d", l, err)
	}
	if l, err := run.Step(8); !slices.Equal(l, make([]int, 8)) || err != api.OK {
		t.Errorf("P11: %v, %d", l, err)
	}
}

func TestP11EveryBatchAndEveryWorkers(t *testing.T) {
	r := numbers{13}
	for batch := 1; batch <= 8; batch++ {
		for workers := 1; workers <= 8; workers++ {
			c := api.Config{Seed: uint64(r.below(1 << 30)), Batch: uint8(batch), Rate: 65536, Momentum: 40000, Decay: 2}
			shard := shardOf(t, example(0, "aaaaaaaaa"), example(1, ""), example(2, "bbbbbbbbbb"), example(3, "ccc"), example(1, "d"))
			run, p := newRun(t, c, shard), newPlainRun(c, shard)
			for range 20 {
				checkStep(t, run, p, workers)
			}
			checkRun(t, run, p)
		}
	}
}

func TestP11WorkersWrittenDown(t *testing.T) {
	for _, c := range []struct {
		batch   uint8
		workers int
		want    []int
	}{
		{1, 1, []int{1}}, {1, 2, []int{0, 1}}, {1, 8, []int{0, 0, 0, 0, 0, 0, 0, 1}},
		{3, 2, []int{1, 2}}, {3, 8, []int{0, 0, 1, 0, 0, 1, 0, 1}}, {5, 3, []int{1, 2, 2}},
		{8, 1, []int{8}}, {8, 3, []int{2, 3, 3}}, {8, 8, []int{1, 1, 1, 1, 1, 1, 1, 1}},
	} {
		run := newRun(t, api.Config{Batch: c.batch}, shardOf(t, example(0, "a")))
		if l, err := run.Step(c.workers); !slices.Equal(l, c.want) || err != api.OK {
			t.Errorf("P11: Batch %d: Step(%d) = %v, %d, want %v", c.batch, c.workers, l, err, c.want)
		}
	}
}

// After one step all rows hold, and the speed alone carries the weights to both
// ends, where they stay.
func TestP11WeightsAreCut(t *testing.T) {
	text := strings.Repeat("a", 30)
	run := newRun(t, api.Config{Batch: 8, Rate: 65536, Momentum: 65535}, shardOf(t, example(3, text)))
	for step := range 400 {
		run.Step(1)
		up, _ := run.Weights(3)
		down, _ := run.Weights(0)
		if up[2] > 16777216 || down[2] < -16777216 {
			t.Fatalf("P11: step %d: weights %d and %d", step, up[2], down[2])
		}
	}
	up, _ := run.Weights(3)
	down, _ := run.Weights(0)
	if up[2] != 16777216 || down[2] != -16777216 || up[21] != 16777216 || down[21] != -16777216 {
		t.Errorf("P11: weights %d, %d and %d, %d", up[2], up[21], down[2], down[21])
	}
	if k, s, err := run.Guess(text); k != 3 || s != 14*16777216 || err != api.OK {
		t.Errorf("P12: Guess = %d, %d, %d", k, s, err)
	}
}

// Halves are rounded down, below 0 too: with Decay 1 a weight of -1 loses -1.
func TestP11ShiftsRoundDown(t *testing.T) {
	// Rate 1: a speed of 1 moves no weight, and one of -1 moves it by -1.
	run := newRun(t, api.Config{Batch: 1, Rate: 1}, shardOf(t, example(1, "a")))
	run.Step(1)
	for class, want := range []int32{-1, 0, 0, 0} {
		if l, _ := run.Weights(class); l[2] != want {
			t.Errorf("P11: Weights(%d): %d, want %d", class, l[2], want)
		}
	}
	// Momentum 1: a speed of -1 times 1, shifted, is -1, and one of 1 is 0.
	run = newRun(t, api.Config{Batch: 1, Rate: 64, Momentum: 1, Decay: 1}, shardOf(t, example(1, "a")))
	for _, want := range [][]int32{{-1, 1, 0, 0}, {-1, 2, -1, 0}, {-1, 2, -1, -1}} {
		run.Step(1)
		for class := range want {
			if l, _ := run.Weights(class); l[2] != want[class] {
				t.Errorf("P11: Weights(%d): %d, want %d", class, l[2], want[class])
			}
		}
	}
}

func TestP11Refuses(t *testing.T) {
	c := api.Config{Seed: 3, Batch: 4, Rate: 65536, Momentum: 65535, Decay: 4}
	shard := shardOf(t, example(0, "a"), example(1, "a"), example(2, "b"))
	run, p := newRun(t, c, shard), newPlainRun(c, shard)
	wrong := []int{0, -1, -8, 9, 10, 256 + 1, 1<<32 + 1, 1<<63 - 1, -1 << 63}
	for step := range 400 {
		for _, workers := range wrong {
			if l, err := run.Step(workers); len(l) != 0 || err != api.ErrWorkers {
				t.Fatalf("P11: step %d: Step(%d) = %v, %d", step, workers, l, err)
			}
		}
		checkStep(t, run, p, 1+step%8)
	}
	checkRun(t, run, p, "a", "b")
	for range 3 {
		for workers := 1; workers <= 8; workers++ {
			if l, err := run.Step(workers); len(l) != 0 || err != api.ErrLimit {
				t.Errorf("P11: step 401: Step(%d) = %v, %d", workers, l, err)
			}
		}
		for _, workers := range wrong {
			if l, err := run.Step(workers); len(l) != 0 || err != api.ErrWorkers {
				t.Errorf("P11: step 401: Step(%d) = %v, %d", workers, l, err)
			}
		}
		checkRun(t, run, p, "a", "b")
	}
}

// FuzzRun follows a run of any settings and any shard beside the plain one.
func FuzzRun(f *testing.F) {
	two := framed("\x00a") + framed("\x01b\xff")
	f.Add(uint64(5), uint8(3), int32(65536), int32(49152), uint8(3), two, uint64(1))
	f.Add(uint64(1<<64-1), uint8(8), int32(1), int32(65535), uint8(0), "x"+two+two, uint64(2))
	f.Add(uint64(0), uint8(0), int32(-1), int32(65536), uint8(32), "", uint64(3))
	f.Fuzz(func(t *testing.T, seed uint64, batch uint8, rate int32, momentum int32, decay uint8, shard string, rest uint64) {
		c := api.Config{Seed: seed, Batch: batch, Rate: rate, Momentum: momentum, Decay: decay}
		r := numbers{rest}
		if run, err := drill.New(c, shard); err != api.OK {
			if run != nil {
				t.Fatalf("P1: New(%+v) = %v, %d", c, run, err)
			}
			return
		}
		follow(t, c, shard, 5, &r)
	})
}
