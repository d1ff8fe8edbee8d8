package drill_test

import (
	"slices"
	"strings"
	"testing"

	"drill/api"
	"drill/drill"
)

var someConfig = api.Config{Seed: 5, Batch: 3, Rate: 65536, Momentum: 49152, Decay: 3}

func someShard(t *testing.T) string {
	return shardOf(t, example(1, "a"), example(2, "bb"), example(0, "é€"), example(3, "\xffa\xe2\x82"))
}

// someRun is a run that has made some steps.
func someRun(t *testing.T) *drill.Run {
	t.Helper()
	run := newRun(t, someConfig, someShard(t))
	for range 5 {
		run.Step(2)
	}
	return run
}

func TestP12StatusAtEachStep(t *testing.T) {
	for batch := 1; batch <= 8; batch++ {
		for _, n := range []int{1, 2, 3, 7, 8, 9, 85} {
			run := newRun(t, api.Config{Batch: uint8(batch)}, shardOf(t, emptyExamples(n)...))
			for step := 0; step <= 400; step++ {
				want := api.Status{Step: step, Epoch: step * batch / n, Row: step * batch % n}
				if s := run.Status(); s != want {
					t.Fatalf("P12: Batch %d, %d records: Status %+v, want %+v", batch, n, s, want)
				}
				run.Step(1)
			}
		}
	}
}

func TestP12WeightsRefuses(t *testing.T) {
	run := someRun(t)
	for _, class := range []int{-1 << 63, -4, -1, 4, 5, 32, 256, 1 << 32, 1<<63 - 1} {
		if l, err := run.Weights(class); len(l) != 0 || err != api.ErrLabel {
			t.Errorf("P12: Weights(%d) = %v, %d", class, l, err)
		}
	}
	for class := range 4 {
		if l, err := run.Weights(class); len(l) != 32 || err != api.OK {
			t.Errorf("P12: Weights(%d) = %v, %d", class, l, err)
		}
	}
}

func TestP12GuessRefuses(t *testing.T) {
	run := someRun(t)
	for _, n := range []int{201, 202, 256, 600, 100000} {
		if k, s, err := run.Guess(strings.Repeat("b", n)); k != 0 || s != 0 || err != api.ErrText {
			t.Errorf("P12: Guess of %d bytes = %d, %d, %d", n, k, s, err)
		}
	}
	// It is bytes that are counted, not runes.
	if k, s, err := run.Guess(strings.Repeat("€", 67)); k != 0 || s != 0 || err != api.ErrText {
		t.Errorf("P12: Guess of 201 bytes = %d, %d, %d", k, s, err)
	}
	for _, text := range []string{strings.Repeat("b", 200), strings.Repeat("€", 66), strings.Repeat("\xff", 200)} {
		if _, _, err := run.Guess(text); err != api.OK {
			t.Errorf("P12: Guess of %d bytes: %d", len(text), err)
		}
	}
}

func TestP12GuessTakesTheLeastOfSuch(t *testing.T) {
	run := newRun(t, api.Config{Batch: 1, Rate: 64}, shardOf(t, example(0, "a")))
	want := []struct {
		class int
		score int64
	}{{0, 0}, {0, 1}, {0, 2}}
	for _, c := range want {
		if k, s, err := run.Guess("a"); k != c.class || s != c.score || err != api.OK {
			t.Errorf("P12: Guess = %d, %d, %d, want %d, %d", k, s, err, c.class, c.score)
		}
		run.Step(1)
	}
	// Here the label's weight of 1 is rounded away, and its rival's of -1 is not.
	run = newRun(t, api.Config{Batch: 1, Rate: 1}, shardOf(t, example(2, "a")))
	run.Step(1)
	if k, s, err := run.Guess("a"); k != 1 || s != 0 || err != api.OK {
		t.Errorf("P12: Guess = %d, %d, %d, want 1, 0", k, s, err)
	}
}

func TestP12GuessAnyText(t *testing.T) {
	r := numbers{14}
	c, shard := someConfig, someShard(t)
	run, p := newRun(t, c, shard), newPlainRun(c, shard)
	for range 9 {
		checkStep(t, run, p, 1)
	}
	for range 300 {
		checkRun(t, run, p, r.text(r.below(201)), r.mixedText(r.below(40)))
	}
}

// answers is all that a run can be asked, as one list.
func answers(t *testing.T, run *drill.Run) []int64 {
	t.Helper()
	all := learnt(t, run)
	for _, b := range []byte(run.Save()) {
		all = append(all, int64(b))
	}
	return all
}

// learnt is answers without the save, which tells of the shard's gaps too.
func learnt(t *testing.T, run *drill.Run) []int64 {
	t.Helper()
	s := run.Status()
	all := []int64{int64(s.Step), int64(s.Epoch), int64(s.Row)}
	for class := -1; class <= 4; class++ {
		l, err := run.Weights(class)
		for _, w := range l {
			all = append(all, int64(w))
		}
		all = append(all, int64(err))
	}
	for _, text := range []string{"", "a", "bb", "é€", "\xff", strings.Repeat("b", 201)} {
		k, score, err := run.Guess(text)
		all = append(all, int64(k), score, int64(err))
	}
	for j := -1; j <= 3201; j++ {
		d, err := run.Draw(j)
		all = append(all, int64(d), int64(err))
	}
	return all
}

func TestP1WithAnErrorNothingIsChanged(t *testing.T) {
	run, twin := someRun(t), someRun(t)
	before := answers(t, run)
	run.Step(0)
	run.Step(9)
	run.Draw(-1)
	run.Draw(3201)
	run.Weights(4)
	run.Weights(-1)
	run.Guess(strings.Repeat("x", 201))
	if !slices.Equal(before, answers(t, run)) {
		t.Errorf("P1: an error changed the run")
	}
	run.Step(3)
	twin.Step(3)
	if !slices.Equal(answers(t, twin), answers(t, run)) {
		t.Errorf("P1: an error changed how the run goes on")
	}
}

func TestP2AskingChangesNothing(t *testing.T) {
	run, twin := someRun(t), someRun(t)
	for range 20 {
		before := answers(t, run)
		if !slices.Equal(before, answers(t, run)) {
			t.Fatalf("P2: the same questions, other answers")
		}
		run.Step(2)
		twin.Step(2)
	}
	if !slices.Equal(answers(t, twin), answers(t, run)) {
		t.Errorf("P2: a run that was asked went another way than one that was not")
	}
}

func TestP2RunsKnowNothingOfOneAnother(t *testing.T) {
	alone := newRun(t, someConfig, someShard(t))
	var want [][]int64
	for range 10 {
		want = append(want, answers(t, alone))
		alone.Step(2)
	}
	run := newRun(t, someConfig, someShard(t))
	for _, answer := range want {
		if !slices.Equal(answer, answers(t, run)) {
			t.Fatalf("P2: a run beside others went another way")
		}
		same := newRun(t, someConfig, someShard(t))
		other := newRun(t, api.Config{Seed: 1, Batch: 8, Rate: 65536, Momentum: 65535}, shardOf(t, example(3, "a")))
		drill.New(api.Config{}, "")
		for range 7 {
			same.Step(8)
			other.Step(1)
		}
		run.Step(2)
	}
}

// fill writes into a list and its spare room.
func fill[T int | int32](l []T) {
	l = l[:cap(l)]
	for i := range l {
		l[i] = 99
	}
}

func TestP2ListsBelongToTheCaller(t *testing.T) {
	run, twin := someRun(t), someRun(t)
	for range 10 {
		for class := range 4 {
			first, _ := run.Weights(class)
			second, _ := run.Weights(class)
			kept := slices.Clone(second)
			fill(first)
			if !slices.Equal(second, kept) {
				t.Fatalf("P2: two lists of Weights(%d) share room", class)
			}
			fill(second)
		}
		for _, workers := range []int{1, 3, 8} {
			first, _ := run.Step(workers)
			second, _ := run.Step(workers)
			kept := slices.Clone(second)
			fill(first)
			if !slices.Equal(second, kept) {
				t.Fatalf("P2: two lists of Step(%d) share room", workers)
			}
			fill(second)
			twin.Step(workers)
			twin.Step(workers)
		}
		if !slices.Equal(answers(t, twin), answers(t, run)) {
			t.Fatalf("P2: writing into lists changed the run")
		}
	}
}

func TestP15WorkersAreNothingToTheWeights(t *testing.T) {
	r := numbers{15}
	for range 20 {
		c, shard := r.config(), someShard(t)
		one, many := newRun(t, c, shard), newRun(t, c, shard)
		for step := range 30 {
			whole, _ := one.Step(1)
			parts, _ := many.Step(1 + step%8)
			sum := 0
			for _, part := range parts {
				sum += part
			}
			if whole[0] != sum {
				t.Fatalf("P15: %+v: one worker has %d misses, more have %v", c, whole[0], parts)
			}
		}
		if !slices.Equal(answers(t, one), answers(t, many)) {
			t.Fatalf("P15: %+v: the run hangs on its workers", c)
		}
	}
}

func TestP15GapsAreNothingToTheWeights(t *testing.T) {
	a, b, d := frameOf(t, example(1, "a")), frameOf(t, example(2, "bb")), frameOf(t, example(0, "é€"))
	plain := newRun(t, someConfig, a+b+d)
	for range 20 {
		plain.Step(1)
	}
	for _, shard := range []string{
		"x" + a + b + d, a + b + d + "x", a + "\xd5" + b + "\xd5\x03" + d, a[1:] + a + b[:4] + b + framed("\x04a") + d + d[:5],
	} {
		run := newRun(t, someConfig, shard)
		for range 20 {
			run.Step(1)
		}
		if !slices.Equal(learnt(t, plain), learnt(t, run)) || inside(run.Save()) != inside(plain.Save()) {
			t.Errorf("P15: the bytes between the frames of %x change the run", shard)
		}
	}
}
