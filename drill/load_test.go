package drill_test

import (
	"encoding/binary"
	"math/big"
	"slices"
	"strings"
	"testing"

	"drill/api"
	"drill/drill"
)

func loaded(t *testing.T, c api.Config, shard string, save string) *drill.Run {
	t.Helper()
	run, err := drill.Load(c, shard, save)
	if run == nil || err != api.OK {
		t.Fatalf("P14: Load(%+v, %x, %x) = %v, %d", c, shard, save, run != nil, err)
	}
	return run
}

func checkLoad(t *testing.T, what string, c api.Config, shard string, save string, want api.Errno) {
	t.Helper()
	run, err := drill.Load(c, shard, save)
	if err != want || (run == nil) != (want != api.OK) {
		t.Errorf("P14: Load of %s: %v, %d, want %d", what, run != nil, err, want)
	}
	if run != nil && run.Save() != save {
		t.Errorf("P14: Load of %s: saved again as %x, want %x", what, run.Save(), save)
	}
}

// pieces is a save with each of its parts as given; the 256 numbers are as written.
type pieces struct {
	head, mark, steps string
	numbers           [256]string
}

func somePieces(t *testing.T) pieces {
	t.Helper()
	p := pieces{head: "DRL1", mark: plainMark(someConfig, someShard(t)), steps: "\x05"}
	for i := range p.numbers {
		p.numbers[i] = "\x00"
	}
	return p
}

func (p pieces) with(i int, number string) pieces {
	p.numbers[i] = number
	return p
}

func (p pieces) body() string {
	return p.head + p.mark + p.steps + strings.Join(p.numbers[:], "")
}

func (p pieces) save() string { return summed(p.body()) }

func TestP14RefusesWhatNewRefuses(t *testing.T) {
	shard := someShard(t)
	good := someRun(t).Save()
	for _, save := range []string{good, "", good[1:], somePieces(t).with(0, "\xff").save()} {
		checkLoad(t, "a long shard", someConfig, shard+strings.Repeat("x", 601-len(shard)), save, api.ErrText)
		checkLoad(t, "a long shard and no settings", api.Config{}, strings.Repeat("x", 601), save, api.ErrText)
		for _, bad := range []api.Config{
			{}, {Batch: 9}, {Batch: 1, Rate: -1}, {Batch: 1, Rate: 65537}, {Batch: 1, Momentum: -1}, {Batch: 1, Momentum: 65536}, {Batch: 1, Decay: 32},
		} {
			checkLoad(t, "wrong settings", bad, shard, save, api.ErrConfig)
			checkLoad(t, "wrong settings and no record", bad, "", save, api.ErrConfig)
		}
		checkLoad(t, "no record", someConfig, "", save, api.ErrEmpty)
		checkLoad(t, "no record", someConfig, shard[1:6], save, api.ErrEmpty)
	}
}

func TestP14RefusesAnotherRun(t *testing.T) {
	shard := someShard(t)
	save := someRun(t).Save()
	checkLoad(t, "itself", someConfig, shard, save, api.OK)
	for _, change := range []func(c *api.Config){
		func(c *api.Config) { c.Seed++ }, func(c *api.Config) { c.Seed ^= 1 << 63 }, func(c *api.Config) { c.Seed ^= 1 << 32 },
		func(c *api.Config) { c.Batch++ }, func(c *api.Config) { c.Rate-- }, func(c *api.Config) { c.Momentum++ },
		func(c *api.Config) { c.Decay = 0 }, func(c *api.Config) { c.Decay = 31 }, func(c *api.Config) { c.Rate = c.Momentum; c.Momentum = 49153 },
	} {
		c := someConfig
		change(&c)
		checkLoad(t, "other settings", c, shard, save, api.ErrOther)
		own := newRun(t, c, shard).Save()
		checkLoad(t, "their own save", c, shard, own, api.OK)
		checkLoad(t, "a save of other settings", someConfig, shard, own, api.ErrOther)
		for _, bad := range []string{"", save[1:], save[:len(save)-1], save + "\x00", "x" + save, summed(save)} {
			checkLoad(t, "other settings and no save", c, shard, bad, api.ErrSave)
		}
	}
	one := frameOf(t, example(1, "a"))
	for _, other := range []string{shard + "x", "x" + shard, shard + one, one + shard, one} {
		checkLoad(t, "another shard", someConfig, other, save, api.ErrOther)
		checkLoad(t, "another shard's save", someConfig, shard, newRun(t, someConfig, other).Save(), api.ErrOther)
	}
	p := somePieces(t)
	for _, mark := range []string{noughts(4), "\xff\xff\xff\xff", p.mark[3:] + p.mark[:3]} {
		p.mark = mark
		checkLoad(t, "any mark", someConfig, shard, p.save(), api.ErrOther)
	}
}

func TestP14RefusesWhatIsNoSave(t *testing.T) {
	shard := someShard(t)
	good := somePieces(t)
	checkLoad(t, "a good one", someConfig, shard, good.save(), api.OK)
	for _, head := range []string{"", "D", "DRL", "DRL0", "DRL2", "drl1", "ERL1", "DRL1D", "DRL11", "\x00DRL1", "1LRD"} {
		p := good
		p.head = head
		checkLoad(t, "the head "+head, someConfig, shard, p.save(), api.ErrSave)
	}
	for _, mark := range []string{"", good.mark[:3], good.mark[1:], good.mark + "\x00\x00\x91"} {
		p := good
		p.mark = mark
		checkLoad(t, "a mark of another length", someConfig, shard, p.save(), api.ErrSave)
	}
	save, body := good.save(), good.body()
	turned := []byte(save)
	slices.Reverse(turned[len(body):])
	for _, bad := range []string{
		"", "DRL1", summed("DRL1"), summed(""), body, body + noughts(4), body + "\xff\xff\xff\xff", string(turned), save + "\x00", save + save, summed(save),
		summed(body + "\x00"), summed("\x00" + body), summed(body[:len(body)-1]), save[1:], body + summed(body[8:])[len(body)-8:], body + summed(body[4:])[len(body)-4:],
		noughts(269), strings.Repeat("\xff", 269), strings.Repeat("DRL1", 100), strings.Repeat("\x80", 1000), body + strings.Repeat("x", 1<<20), "DRL1" + strings.Repeat("\x80", 1<<20),
	} {
		checkLoad(t, "no save", someConfig, shard, bad, api.ErrSave)
	}
}

func TestP14CutShortOrLonger(t *testing.T) {
	shard := someShard(t)
	for _, save := range []string{someRun(t).Save(), newRun(t, someConfig, shard).Save()} {
		body := save[:len(save)-4]
		for n := range len(save) {
			checkLoad(t, "a part", someConfig, shard, save[:n], api.ErrSave)
			checkLoad(t, "an end", someConfig, shard, save[len(save)-n:], api.ErrSave)
		}
		for n := range len(body) {
			checkLoad(t, "a part with its sum", someConfig, shard, summed(body[:n]), api.ErrSave)
		}
		for b := range 256 {
			checkLoad(t, "a byte more", someConfig, shard, save+string([]byte{byte(b)}), api.ErrSave)
			checkLoad(t, "a byte more before the sum", someConfig, shard, summed(body+string([]byte{byte(b)})), api.ErrSave)
		}
	}
}

func TestP14EveryNumberOfSteps(t *testing.T) {
	shard := someShard(t)
	p := somePieces(t)
	for n := range 401 {
		p.steps = string(binary.AppendUvarint(nil, uint64(n)))
		checkLoad(t, "steps", someConfig, shard, p.save(), api.OK)
		want := api.Status{Step: n, Epoch: n * 3 / 4, Row: n * 3 % 4}
		if s := loaded(t, someConfig, shard, p.save()).Status(); s != want {
			t.Fatalf("P14: Status %+v, want %+v", s, want)
		}
	}
	for _, n := range []uint64{401, 402, 528, 656, 800, 16784, 65536, 1 << 31, 1 << 32, 1<<32 + 1, 1<<63 - 1, 1 << 63, 1<<64 - 1} {
		p.steps = string(binary.AppendUvarint(nil, n))
		checkLoad(t, "too many steps", someConfig, shard, p.save(), api.ErrSave)
	}
	for _, steps := range []string{"", "\x80\x00", "\x85\x00", "\x85\x80\x00", "\x90\x83\x00", "\x85" + strings.Repeat("\x80", 8) + "\x00", "\x85" + strings.Repeat("\x80", 8) + "\x02", strings.Repeat("\x80", 9) + "\x02", "\x85" + strings.Repeat("\x80", 18) + "\x01"} {
		p.steps = steps
		checkLoad(t, "steps that are no varint", someConfig, shard, p.save(), api.ErrSave)
	}
}

func TestP14TheBoundsOfEachNumber(t *testing.T) {
	shard := someShard(t)
	p := somePieces(t)
	for i := range 256 {
		most := int64(1 << 24)
		if i >= 128 {
			most = 1 << 30
		}
		for _, x := range []int64{-most, 1 - most, -1, 0, 1, most - 1, most} {
			save := p.with(i, string(binary.AppendVarint(nil, x))).save()
			checkLoad(t, "a number within bounds", someConfig, shard, save, api.OK)
			if l, _ := loaded(t, someConfig, shard, save).Weights(i / 32 % 4); i < 128 && int64(l[i%32]) != x {
				t.Errorf("P14: number %d is %d in the save, and the weight %d", i, x, l[i%32])
			}
		}
		for _, x := range []int64{most + 1, -most - 1, 2 * most, -2 * most, 64*most + 1, 1 << 31, 1 << 32, 1<<32 + 1, -1 << 32, 1<<62 - 1, -1 << 62, 1 << 62, 1<<63 - 1, -1 << 63} {
			checkLoad(t, "a number out of bounds", someConfig, shard, p.with(i, string(binary.AppendVarint(nil, x))).save(), api.ErrSave)
		}
	}
}

func TestP14EachNumberIsAVarint(t *testing.T) {
	shard := someShard(t)
	p := somePieces(t)
	for i := range 256 {
		for _, number := range []string{
			"", "\x80", "\xff", "\x80\x00", "\x81\x00", "\x81\x80\x00", "\x80\x80\x80\x80\x00", strings.Repeat("\x80", 8) + "\x00", strings.Repeat("\x80", 9) + "\x00",
			strings.Repeat("\x80", 9) + "\x02", "\x81" + strings.Repeat("\x80", 8) + "\x02", strings.Repeat("\x80", 10) + "\x01", strings.Repeat("\xff", 9) + "\x01", strings.Repeat("\x80", 19) + "\x01", "\x00\x00",
		} {
			checkLoad(t, "a number that is no varint", someConfig, shard, p.with(i, number).save(), api.ErrSave)
		}
	}
}

// A loaded run, whatever it has learnt, keeps P8 to P12 as a new one does.
func TestP14ALoadedRunGoesByTheDocument(t *testing.T) {
	r := numbers{21}
	for range 60 {
		c := r.config()
		shard := r.shard(t, 1+r.below(12)) + frameOf(t, example(uint8(r.below(4)), "ab"))
		p := newPlainRun(c, shard)
		p.steps = r.below(392)
		r.fillRun(p)
		run := loaded(t, c, shard, p.save())
		checkRun(t, run, p, "", "a", r.mixedText(9))
		for range 8 {
			checkStep(t, run, p, 1+r.below(8))
			checkRun(t, run, p, r.mixedText(r.below(6)), p.examples[r.below(len(p.examples))].Text)
		}
		for _, j := range []int{0, 1, 1 + r.below(3000), 3200} {
			if d, err := run.Draw(j); d != p.draw(j) || err != api.OK {
				t.Fatalf("P8: Draw(%d) = %d, %d, want %d", j, d, err, p.draw(j))
			}
		}
	}
}

func TestP14TheLastSteps(t *testing.T) {
	shard := someShard(t)
	p := newPlainRun(someConfig, shard)
	p.steps = 399
	run := loaded(t, someConfig, shard, p.save())
	if l, err := run.Step(9); len(l) != 0 || err != api.ErrWorkers {
		t.Errorf("P11: Step(9) = %v, %d", l, err)
	}
	checkStep(t, run, p, 2)
	checkRun(t, run, p)
	for _, last := range []*drill.Run{run, loaded(t, someConfig, shard, p.save())} {
		if l, err := last.Step(2); len(l) != 0 || err != api.ErrLimit {
			t.Errorf("P11: step 401 of a loaded run: %v, %d", l, err)
		}
		if l, err := last.Step(0); len(l) != 0 || err != api.ErrWorkers {
			t.Errorf("P11: Step(0) = %v, %d", l, err)
		}
		checkRun(t, last, p)
	}
}

// A new run hardly comes to the cap of speeds; a loaded one may stand there.
func TestP11SpeedsOfALoadedRunAreCut(t *testing.T) {
	c := api.Config{Batch: 1, Rate: 65536, Momentum: 65535}
	shard := shardOf(t, example(1, "a"))
	p := newPlainRun(c, shard)
	p.speeds[1][2] = big.NewInt(1 << 30)
	p.speeds[0][2] = big.NewInt(-1 << 30)
	run := loaded(t, c, shard, p.save())
	run.Step(1)
	// The most that a speed can be loses 16384 by the momentum; the miss adds more.
	p.steps = 1
	p.weights[1][2] = big.NewInt(1 << 24)
	p.weights[0][2] = big.NewInt(-1 << 24)
	checkRun(t, run, p)
	run.Step(1)
	p.steps = 2
	p.speeds[1][2] = big.NewInt(1<<30 - 16384)
	p.speeds[0][2] = big.NewInt(-1<<30 + 16384)
	checkRun(t, run, p)
}

func TestP1ARefusedLoadChangesNothing(t *testing.T) {
	run := someRun(t)
	before := answers(t, run)
	save := run.Save()
	drill.Load(someConfig, someShard(t), save[1:])
	drill.Load(api.Config{Batch: 1}, someShard(t), save)
	drill.Load(api.Config{}, "", "")
	if !slices.Equal(before, answers(t, run)) {
		t.Errorf("P1: a refused Load changed a run")
	}
	if q := loaded(t, someConfig, someShard(t), save); !slices.Equal(before, answers(t, q)) {
		t.Errorf("P1: a refused Load changed what comes of the next")
	}
}

func TestP2LoadedRunsKnowNothingOfOneAnother(t *testing.T) {
	run := someRun(t)
	save := run.Save()
	before := answers(t, run)
	one, two := loaded(t, someConfig, someShard(t), save), loaded(t, someConfig, someShard(t), save)
	for range 7 {
		one.Step(1)
	}
	if !slices.Equal(before, answers(t, run)) || !slices.Equal(before, answers(t, two)) {
		t.Errorf("P2: a loaded run changed another")
	}
	for range 7 {
		run.Step(2)
	}
	if !slices.Equal(before, answers(t, two)) {
		t.Errorf("P2: the run that was saved changed the loaded one")
	}
	if !slices.Equal(answers(t, run), answers(t, one)) {
		t.Errorf("P15: the loaded run went another way")
	}
	l, _ := two.Weights(1)
	fill(l)
	if !slices.Equal(before, answers(t, two)) {
		t.Errorf("P2: writing into a list changed the loaded run")
	}
}

func TestP15ALoadedRunGoesOn(t *testing.T) {
	r := numbers{22}
	for range 30 {
		c := r.config()
		shard := r.shard(t, 1+r.below(10)) + frameOf(t, example(uint8(r.below(4)), "a"))
		run, p := newRun(t, c, shard), newPlainRun(c, shard)
		often := 1 + r.below(4)
		for range 30 {
			checkStep(t, run, p, 1+r.below(8))
			if r.below(often) == 0 {
				run = loaded(t, c, shard, run.Save())
			}
			checkRun(t, run, p, r.mixedText(4))
		}
	}
}

func TestP15LoadedAtEachStepToTheLast(t *testing.T) {
	c := api.Config{Seed: 8, Batch: 8, Rate: 65536, Momentum: 65000, Decay: 7}
	kept := newRun(t, c, someShard(t))
	run := newRun(t, c, someShard(t))
	for step := range 401 {
		run = loaded(t, c, someShard(t), run.Save())
		if run.Save() != kept.Save() || run.Status() != kept.Status() {
			t.Fatalf("P15: step %d: the loaded run went another way", step)
		}
		a, errA := run.Step(1 + step%8)
		b, errB := kept.Step(1 + step%8)
		if !slices.Equal(a, b) || errA != errB {
			t.Fatalf("P15: step %d: %v, %d and %v, %d", step, a, errA, b, errB)
		}
	}
}

func TestP15OneByteIsAnother(t *testing.T) {
	shard := someShard(t)
	other := someConfig
	other.Seed++
	for _, save := range []string{someRun(t).Save(), newRun(t, someConfig, shard).Save()} {
		for i := range save {
			for turn := 1; turn < 256; turn++ {
				b := []byte(save)
				b[i] ^= byte(turn)
				if run, err := drill.Load(someConfig, shard, string(b)); run != nil || err != api.ErrSave {
					t.Fatalf("P15: byte %d turned by %d: %v, %d", i, turn, run != nil, err)
				}
				if turn%51 == 0 {
					checkLoad(t, "a turned byte and other settings", other, shard, string(b), api.ErrSave)
				}
			}
		}
	}
}

// FuzzLoad loads any bytes, and lays the sum behind them first if it is asked to.
func FuzzLoad(f *testing.F) {
	shard := framed("\x00a") + "x" + framed("\x01b\xff")
	c := api.Config{Seed: 5, Batch: 3, Rate: 65536, Momentum: 49152, Decay: 3}
	p := newPlainRun(c, shard)
	for _, steps := range []int{0, 3, 200} {
		for p.steps < steps {
			p.step()
		}
		save := p.save()
		f.Add(c.Seed, shard, save, false)
		f.Add(c.Seed, shard, save[:len(save)-4], true)
		f.Add(c.Seed+1, shard, save, false)
	}
	f.Add(c.Seed, "", "", true)
	f.Fuzz(func(t *testing.T, seed uint64, shard string, save string, sum bool) {
		c := api.Config{Seed: seed, Batch: 3, Rate: 65536, Momentum: 49152, Decay: 3}
		if sum {
			save = summed(save)
		}
		run, err := drill.Load(c, shard, save)
		if _, want := drill.New(c, shard); want != api.OK {
			if run != nil || err != want {
				t.Fatalf("P14: %v, %d, but New says %d", run != nil, err, want)
			}
			return
		}
		p, want := plainLoad(c, shard, save)
		if err != want || (run == nil) != (want != api.OK) {
			t.Fatalf("P14: Load of %x: %v, %d, want %d", save, run != nil, err, want)
		}
		if run == nil {
			return
		}
		checkRun(t, run, p, "a")
		if p.steps < 400 {
			checkStep(t, run, p, 2)
			checkRun(t, run, p, "b\xff")
		}
	})
}
