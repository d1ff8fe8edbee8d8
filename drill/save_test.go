package drill_test

import (
	"math/big"
	"strings"
	"testing"

	"drill/api"
)

// inside is what a save has between its mark and its sum.
func inside(save string) string {
	if len(save) < 12 {
		return "no save"
	}
	return save[8 : len(save)-4]
}

func noughts(n int) string { return strings.Repeat("\x00", n) }

func TestP13SavesWrittenDown(t *testing.T) {
	run := newRun(t, api.Config{Batch: 2, Rate: 65536}, shardOf(t, example(1, "a")))
	first := "DRL1\xb7\x19\x27\x5a" + "\x00" + noughts(256) + "\x98\xc0\x4f\x8b"
	if save := run.Save(); save != first {
		t.Errorf("P13: the first save is %x, want %x", save, first)
	}
	run.Step(1)
	// In bucket 2 class 0 has the weight -2048 and the speed -131072, class 1
	// has 2048 and 131072.
	weights := noughts(2) + "\xff\x1f" + noughts(29) + noughts(2) + "\x80\x20" + noughts(29) + noughts(64)
	speeds := noughts(2) + "\xff\xff\x0f" + noughts(29) + noughts(2) + "\x80\x80\x10" + noughts(29) + noughts(64)
	if save := inside(run.Save()); save != "\x01"+weights+speeds {
		t.Errorf("P13: behind a step the save has %x", save)
	}
}

// edgeNumbers are those at which a varint gets a byte more, and their neighbours.
func edgeNumbers(most int64) []int64 {
	l := []int64{0, 1, -1, 2, -2, most, -most, most - 1, 1 - most}
	for bits := 6; bits < 30; bits += 7 {
		for d := int64(-1); d <= 1; d++ {
			if x := int64(1)<<bits + d; x <= most {
				l = append(l, x, -x)
			}
		}
	}
	return l
}

// fillRun gives a plain run any weights and speeds, those at edges often.
func (r *numbers) fillRun(p *plainRun) {
	weights, speeds := edgeNumbers(1<<24), edgeNumbers(1<<30)
	for class := range 4 {
		for bucket := range 32 {
			w, v := weights[r.below(len(weights))], speeds[r.below(len(speeds))]
			if r.below(3) == 0 {
				w = int64(r.below(1<<25+1)) - 1<<24
			}
			if r.below(3) == 0 {
				v = int64(r.below(1<<30))*2 - 1<<30
			}
			p.weights[class][bucket] = big.NewInt(w)
			p.speeds[class][bucket] = big.NewInt(v)
		}
	}
}

func TestP13EveryEdgeNumber(t *testing.T) {
	c, shard := someConfig, someShard(t)
	for i, v := range edgeNumbers(1 << 30) {
		weights := edgeNumbers(1 << 24)
		w := weights[i%len(weights)]
		for _, at := range []int{0, 1, 31, 32, 63, 64, 95, 96, 126, 127} {
			p := newPlainRun(c, shard)
			p.weights[at/32][at%32] = big.NewInt(w)
			p.speeds[at/32][at%32] = big.NewInt(v)
			checkRun(t, loaded(t, c, shard, p.save()), p)
		}
	}
}

func TestP13EveryNumberOfSteps(t *testing.T) {
	c := api.Config{Seed: 9, Batch: 2, Rate: 40000, Momentum: 60000, Decay: 6}
	shard := someShard(t)
	run, p := newRun(t, c, shard), newPlainRun(c, shard)
	for range 400 {
		checkRun(t, run, p)
		checkStep(t, run, p, 1)
	}
	checkRun(t, run, p)
	run.Step(1)
	checkRun(t, run, p)
}

func TestP13TheMark(t *testing.T) {
	shard := someShard(t)
	var configs []api.Config
	for _, seed := range edgeSeeds {
		configs = append(configs, api.Config{Seed: seed, Batch: 1})
	}
	for bit := range 64 {
		configs = append(configs, api.Config{Seed: 1 << bit, Batch: 1})
	}
	for bit := range 17 {
		configs = append(configs, api.Config{Batch: 1, Rate: 1 << bit})
	}
	for bit := range 16 {
		configs = append(configs, api.Config{Batch: 1, Momentum: 1 << bit})
	}
	for n := range 32 {
		configs = append(configs, api.Config{Batch: uint8(1 + n%8), Decay: uint8(n)})
	}
	configs = append(configs, api.Config{Seed: 0x0102030405060708, Batch: 8, Rate: 65535, Momentum: 65534, Decay: 31})
	for _, c := range configs {
		checkRun(t, newRun(t, c, shard), newPlainRun(c, shard))
	}
	one := frameOf(t, example(1, "a"))
	for _, shard := range []string{one, one + one, "x" + one, one + "x", one + noughts(1), one + strings.Repeat("\xff", 600-len(one))} {
		checkRun(t, newRun(t, someConfig, shard), newPlainRun(someConfig, shard))
	}
}

// The mark is of what the run was begun with, and stays.
func TestP13StepsAreNothingToTheMark(t *testing.T) {
	run := newRun(t, someConfig, someShard(t))
	mark := plainMark(someConfig, someShard(t))
	for step := range 401 {
		if save := run.Save(); save[4:8] != mark {
			t.Fatalf("P13: step %d: the mark %x, want %x", step, save[4:8], mark)
		}
		run.Step(1 + step%8)
	}
}
