package learn

import (
	"testing"

	"drill/api"
)

// set gives a learner all of whose weights and speeds are the same.
func set(weight int32, speed int64) Learner {
	var l Learner
	for class := range l.Weights {
		for bucket := range l.Weights[class] {
			l.Weights[class][bucket] = weight
			l.Speeds[class][bucket] = speed
		}
	}
	return l
}

// A run from New hardly comes to the cap of speeds, so it is tried from there.
func TestP11SpeedsAreCut(t *testing.T) {
	const most = 1 << 30
	for _, c := range []struct {
		speed, pull int64
		config      api.Config
		want        int64
	}{
		{most, 56, api.Config{Rate: 65536, Momentum: 65535}, most},
		{-most, -56, api.Config{Rate: 65536, Momentum: 65535}, -most},
		{most, 0, api.Config{Rate: 65536, Momentum: 65535}, most - 16384},
		{-most, 0, api.Config{Rate: 65536, Momentum: 65535}, -most + 16384},
		{most, 1, api.Config{Rate: 16384, Momentum: 65535}, most},
		{most, 1, api.Config{Rate: 16385, Momentum: 65535}, most},
		{most, 1, api.Config{Rate: 16383, Momentum: 65535}, most - 1},
		{-most, -1, api.Config{Rate: 16384, Momentum: 65535}, -most},
		{-most, -1, api.Config{Rate: 16385, Momentum: 65535}, -most},
		{-most, -1, api.Config{Rate: 16383, Momentum: 65535}, -most + 1},
		{most, 56, api.Config{Rate: 65536}, 56 * 65536},
		{-1, 0, api.Config{Rate: 65536, Momentum: 1}, -1},
		{1, 0, api.Config{Rate: 65536, Momentum: 65535}, 0},
	} {
		l := set(0, c.speed)
		var pull Pull
		for class := range pull.of {
			for bucket := range pull.of[class] {
				pull.of[class][bucket] = c.pull
			}
		}
		l.Move(pull, c.config)
		if l != set(int32(c.want>>6), c.want) {
			t.Errorf("P11: speed %d, pull %d, %+v: %d and the weight %d, want %d", c.speed, c.pull, c.config, l.Speeds[3][31], l.Weights[3][31], c.want)
		}
	}
}

func TestP11WeightsMoveAndAreCut(t *testing.T) {
	const most = 1 << 24
	for _, c := range []struct {
		weight int32
		speed  int64
		decay  uint8
		want   int32
	}{
		{most, 0, 0, most}, {-most, 0, 0, -most},
		{most, 65535 * 64, 0, most}, {-most, -65535 * 64, 0, -most},
		{most - 2, 128, 0, most - 1}, {most - 1, 128, 0, most}, {most, 128, 0, most}, {-most + 1, -64, 0, -most}, {-most + 1, -65, 0, -most},
		{most, 0, 1, most / 2}, {-most, 0, 1, -most / 2}, {most, 0, 24, most - 1}, {-most, 0, 24, -most + 1},
		{most, 0, 25, most}, {-most, 0, 25, -most + 1}, {most, 0, 31, most}, {-most, 0, 31, -most + 1},
		{-1, 0, 1, 0}, {-3, 0, 1, -1}, {3, 0, 1, 2}, {1, 0, 1, 1}, {1, 0, 31, 1}, {-1, 0, 31, 0}, {-1, 0, 0, -1},
	} {
		// By this momentum a speed loses one in 65536, rounded down.
		kept := (c.speed * 65535) >> 16
		l := set(c.weight, c.speed)
		l.Move(Pull{}, api.Config{Rate: 65536, Momentum: 65535, Decay: c.decay})
		if l != set(c.want, kept) {
			t.Errorf("P11: weight %d, speed %d, decay %d: %d, want %d", c.weight, c.speed, c.decay, l.Weights[0][0], c.want)
		}
	}
}

// Each class and bucket goes its own way.
func TestP11EachWeightHasItsOwnSpeed(t *testing.T) {
	var l Learner
	var pull Pull
	for class := range l.Weights {
		for bucket := range l.Weights[class] {
			l.Weights[class][bucket] = int32(1000*class + bucket)
			l.Speeds[class][bucket] = int64(bucket) << 20
			pull.of[class][bucket] = int64(class)
		}
	}
	l.Move(pull, api.Config{Rate: 128, Momentum: 32768})
	for class := range l.Weights {
		for bucket := range l.Weights[class] {
			speed := int64(bucket)<<19 + int64(class)*128
			weight := int32(1000*class+bucket) + int32(bucket)<<13 + 2*int32(class)
			if l.Speeds[class][bucket] != speed || l.Weights[class][bucket] != weight {
				t.Errorf("P11: class %d, bucket %d: %d, %d, want %d, %d", class, bucket, l.Speeds[class][bucket], l.Weights[class][bucket], speed, weight)
			}
		}
	}
}

func TestP10ScoresAtTheCaps(t *testing.T) {
	l := set(-api.Cap, 0)
	if class, score := l.Guess("aaaaaaaaaaaa"); class != 0 || score != -14*api.Cap {
		t.Errorf("P10: Guess = %d, %d", class, score)
	}
	l.Weights[2] = set(api.Cap, 0).Weights[2]
	if class, score := l.Guess("aaaaaaaaaaaa"); class != 2 || score != 14*api.Cap {
		t.Errorf("P10: Guess = %d, %d", class, score)
	}
}

func TestGreatestLeavesOneOut(t *testing.T) {
	for _, c := range []struct {
		scores  [4]int64
		leftOut int
		want    int
	}{
		{[4]int64{0, 0, 0, 0}, noClass, 0}, {[4]int64{0, 0, 0, 0}, 0, 1}, {[4]int64{0, 0, 0, 0}, 1, 0}, {[4]int64{0, 0, 0, 0}, 3, 0},
		{[4]int64{1, 2, 3, 4}, noClass, 3}, {[4]int64{1, 2, 3, 4}, 3, 2}, {[4]int64{4, 3, 2, 1}, 0, 1}, {[4]int64{4, 3, 2, 1}, 1, 0},
		{[4]int64{-9, -8, -8, -9}, noClass, 1}, {[4]int64{-9, -8, -8, -9}, 1, 2}, {[4]int64{-9, -8, -8, -9}, 2, 1}, {[4]int64{9, -8, -9, -8}, 0, 1},
	} {
		if best := greatest(c.scores, c.leftOut); best != c.want {
			t.Errorf("P10: greatest(%v, %d) = %d, want %d", c.scores, c.leftOut, best, c.want)
		}
	}
}

func TestARowOfNoClassMovesNothing(t *testing.T) {
	var l Learner
	var pull Pull
	for label := 4; label < 256; label++ {
		if l.Row(api.Example{Label: uint8(label), Text: "a"}, &pull) || pull != (Pull{}) {
			t.Errorf("label %d: the pull %v", label, pull.of)
		}
	}
	if !l.Row(api.Example{Label: 3, Text: "a"}, &pull) || pull.of[3][2] != 1 || pull.of[0][2] != -1 {
		t.Errorf("P11: the pull %v", pull.of)
	}
}
