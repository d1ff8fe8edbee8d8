package drill_test

import (
	"testing"

	"drill/api"
)

func emptyExamples(n int) []api.Example {
	return make([]api.Example, n)
}

func TestP8EveryDraw(t *testing.T) {
	for i, n := range []int{1, 2, 3, 4, 5, 15, 16, 17, 63, 64, 65, 84, 85} {
		seed := edgeSeeds[i%len(edgeSeeds)]
		c := api.Config{Seed: seed, Batch: uint8(1 + i%8)}
		shard := shardOf(t, emptyExamples(n)...)
		r, p := newRun(t, c, shard), newPlainRun(c, shard)
		for j := 0; j <= 3200; j++ {
			if d, err := r.Draw(j); d != p.draw(j) || err != api.OK {
				t.Fatalf("P8: seed %d, %d records: Draw(%d) = %d, %d, want %d", seed, n, j, d, err, p.draw(j))
			}
		}
	}
}

// The epoch is added to the seed as a u64: past its end it goes on from 0.
func TestP8SeedsRunOver(t *testing.T) {
	shard := shardOf(t, emptyExamples(10)...)
	last := newRun(t, api.Config{Seed: 1<<64 - 1, Batch: 1}, shard)
	first := newRun(t, api.Config{Batch: 1}, shard)
	for j := range 100 {
		a, _ := last.Draw(10 + j)
		b, _ := first.Draw(j)
		if a != b {
			t.Fatalf("P8: draw %d of the seed behind the last is %d, and of the seed 0 %d", j, a, b)
		}
	}
}

func TestP8DrawsWrittenDown(t *testing.T) {
	r := newRun(t, api.Config{Seed: 5, Batch: 3}, shardOf(t, emptyExamples(4)...))
	for j, want := range []int{0, 2, 1, 3, 1, 0, 3, 2} {
		if d, err := r.Draw(j); d != want || err != api.OK {
			t.Errorf("P8: Draw(%d) = %d, %d, want %d", j, d, err, want)
		}
	}
}

func TestP8Refuses(t *testing.T) {
	for _, batch := range []uint8{1, 8} {
		r := newRun(t, api.Config{Batch: batch}, shardOf(t, emptyExamples(7)...))
		for _, j := range []int{-1 << 63, -3201, -7, -1, 3201, 3202, 6400, 1 << 32, 1<<32 + 1, 1<<63 - 1} {
			if d, err := r.Draw(j); d != 0 || err != api.ErrRange {
				t.Errorf("P8: Draw(%d) = %d, %d", j, d, err)
			}
		}
		for _, j := range []int{0, 399, 400, 401, 3199, 3200} {
			if _, err := r.Draw(j); err != api.OK {
				t.Errorf("P8: Draw(%d): %d", j, err)
			}
		}
	}
}

func TestP8StepsAreNothingToTheDraws(t *testing.T) {
	c := api.Config{Seed: 77, Batch: 5, Rate: 65536}
	shard := shardOf(t, example(0, "a"), example(1, "b"), example(2, "c"))
	r, p := newRun(t, c, shard), newPlainRun(c, shard)
	for range 400 {
		r.Step(1)
	}
	for j := 0; j <= 3200; j++ {
		if d, err := r.Draw(j); d != p.draw(j) || err != api.OK {
			t.Fatalf("P8: Draw(%d) = %d, %d, want %d", j, d, err, p.draw(j))
		}
	}
}

func TestP15EachEpochDrawsEachRecordOnce(t *testing.T) {
	for n := 1; n <= 85; n++ {
		r := newRun(t, api.Config{Seed: uint64(n) << 55, Batch: 1}, shardOf(t, emptyExamples(n)...))
		for epoch := 0; (epoch+1)*n <= 3201; epoch++ {
			seen := make([]bool, n)
			for row := range n {
				d, err := r.Draw(epoch*n + row)
				if err != api.OK || d < 0 || d >= n || seen[d] {
					t.Fatalf("P15: %d records, epoch %d, row %d: %d, %d", n, epoch, row, d, err)
				}
				seen[d] = true
			}
		}
	}
}
