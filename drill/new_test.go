package drill_test

import (
	"slices"
	"strings"
	"testing"

	"drill/api"
	"drill/drill"
)

func checkNew(t *testing.T, c api.Config, shard string, want api.Errno) {
	t.Helper()
	r, err := drill.New(c, shard)
	if err != want || (r == nil) != (want != api.OK) {
		t.Errorf("P7: New(%+v, %d bytes) = %v, %d, want %d", c, len(shard), r, err, want)
	}
}

func TestP7EveryBatchAndDecay(t *testing.T) {
	shard := shardOf(t, example(1, "ab"))
	for n := range 256 {
		batch, decay := api.OK, api.OK
		if n < 1 || n > 8 {
			batch = api.ErrConfig
		}
		if n > 31 {
			decay = api.ErrConfig
		}
		checkNew(t, api.Config{Batch: uint8(n)}, shard, batch)
		checkNew(t, api.Config{Batch: 1, Decay: uint8(n)}, shard, decay)
	}
}

func TestP7RateAndMomentum(t *testing.T) {
	shard := shardOf(t, example(1, "ab"))
	for _, c := range []struct {
		n              int32
		rate, momentum api.Errno
	}{
		{-1 << 31, api.ErrConfig, api.ErrConfig}, {-65536, api.ErrConfig, api.ErrConfig}, {-1, api.ErrConfig, api.ErrConfig},
		{0, api.OK, api.OK}, {1, api.OK, api.OK}, {65535, api.OK, api.OK},
		{65536, api.OK, api.ErrConfig}, {65537, api.ErrConfig, api.ErrConfig}, {1<<31 - 1, api.ErrConfig, api.ErrConfig},
	} {
		checkNew(t, api.Config{Batch: 8, Rate: c.n}, shard, c.rate)
		checkNew(t, api.Config{Batch: 8, Momentum: c.n}, shard, c.momentum)
	}
	for _, seed := range edgeSeeds {
		checkNew(t, api.Config{Seed: seed, Batch: 8, Rate: 65536, Momentum: 65535, Decay: 31}, shard, api.OK)
	}
}

func TestP7RefusesWhatIsNamedFirst(t *testing.T) {
	good := api.Config{Batch: 1}
	shard := shardOf(t, example(1, "ab"))
	full := shard + strings.Repeat("x", 600-len(shard))
	for _, bad := range []api.Config{
		{}, {Batch: 9}, {Batch: 1, Rate: -1}, {Batch: 1, Momentum: 65536}, {Batch: 1, Decay: 32},
		{Batch: 255, Rate: 1 << 30, Momentum: -5, Decay: 255},
	} {
		checkNew(t, bad, full+"x", api.ErrText)
		checkNew(t, bad, strings.Repeat("x", 601), api.ErrText)
		checkNew(t, bad, full, api.ErrConfig)
		checkNew(t, bad, "", api.ErrConfig)
		checkNew(t, bad, "xyz", api.ErrConfig)
	}
	checkNew(t, good, full, api.OK)
	checkNew(t, good, full+"x", api.ErrText)
	checkNew(t, good, strings.Repeat("x", 100000), api.ErrText)
	checkNew(t, good, "", api.ErrEmpty)
	checkNew(t, good, strings.Repeat("x", 600), api.ErrEmpty)
	checkNew(t, good, shard[1:], api.ErrEmpty)
	checkNew(t, good, shard[:len(shard)-1], api.ErrEmpty)
	checkNew(t, good, framed("\x04a"), api.ErrEmpty)
}

func TestP7ANewRunHasLearntNothing(t *testing.T) {
	r := newRun(t, api.Config{Seed: 9, Batch: 8, Rate: 65536, Momentum: 65535, Decay: 1}, shardOf(t, example(3, "ab"), example(2, "")))
	if s := r.Status(); s != (api.Status{}) {
		t.Errorf("P7: Status %+v", s)
	}
	for class := range 4 {
		if l, err := r.Weights(class); !slices.Equal(l, make([]int32, 32)) || err != api.OK {
			t.Errorf("P7: Weights(%d) = %v, %d", class, l, err)
		}
	}
	for _, text := range []string{"", "ab", "z"} {
		if k, s, err := r.Guess(text); k != 0 || s != 0 || err != api.OK {
			t.Errorf("P7: Guess(%q) = %d, %d, %d", text, k, s, err)
		}
	}
}

// With Rate 0 no weight and no speed can come but from what was there at first.
func TestP7SpeedsAreNoneAtFirst(t *testing.T) {
	r := newRun(t, api.Config{Batch: 1, Momentum: 65535}, shardOf(t, example(3, "ab")))
	for range 400 {
		r.Step(1)
	}
	for class := range 4 {
		if l, _ := r.Weights(class); !slices.Equal(l, make([]int32, 32)) {
			t.Errorf("P7: Weights(%d) = %v", class, l)
		}
	}
}

// Each record has its own rune, and with Batch 1 a step shows which was drawn.
func TestP7RecordsAreNumberedAsScanned(t *testing.T) {
	texts := []string{"a", "b", "c", "d", "e"}
	shard := "??"
	for i, text := range texts {
		shard += frameOf(t, example(uint8(1+i%3), text)) + "\xd5"
	}
	r := newRun(t, api.Config{Seed: 4, Batch: 1, Rate: 64}, shard)
	for j := range texts {
		d, err := r.Draw(j)
		if d < 0 || d >= len(texts) || err != api.OK {
			t.Fatalf("P8: Draw(%d) = %d, %d", j, d, err)
		}
		label, bucket := 1+d%3, plainBucket(rune(texts[d][0]))
		before, _ := r.Weights(label)
		r.Step(1)
		after, _ := r.Weights(label)
		if after[bucket] != before[bucket]+1 {
			t.Errorf("P7, P8: draw %d is record %d, but its bucket %d went from %d to %d", j, d, bucket, before[bucket], after[bucket])
		}
	}
}
