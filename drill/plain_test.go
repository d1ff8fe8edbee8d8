package drill_test

import (
	"encoding/binary"
	"hash/crc32"
	"hash/fnv"
	"math/big"
	"slices"
	"testing"
	"unicode/utf8"

	"drill/api"
	"drill/drill"
)

// plainRun is a run told again from the document, by other means: the records
// come from plainScan, the orders from plainOrder, the buckets from the
// library's hash, and numbers of any size are divided where the program shifts.
type plainRun struct {
	config   api.Config
	mark     string
	examples []api.Example
	steps    int
	weights  [4][32]*big.Int
	speeds   [4][32]*big.Int
	orders   map[int][]uint32
}

func newPlainRun(c api.Config, shard string) *plainRun {
	p := &plainRun{config: c, mark: plainMark(c, shard), orders: map[int][]uint32{}}
	found, _ := plainScan(shard)
	for _, r := range found {
		p.examples = append(p.examples, r.Example)
	}
	for class := range 4 {
		for bucket := range 32 {
			p.weights[class][bucket] = new(big.Int)
			p.speeds[class][bucket] = new(big.Int)
		}
	}
	return p
}

func plainMix(z uint64) uint64 {
	z = (z ^ z>>30) * 13787848793156543929
	z = (z ^ z>>27) * 10723151780598845931
	return z ^ z>>31
}

func (p *plainRun) draw(j int) int {
	n := len(p.examples)
	epoch := j / n
	if p.orders[epoch] == nil {
		p.orders[epoch] = plainOrder(plainMix(p.config.Seed+uint64(epoch)), uint32(n))
	}
	return int(p.orders[epoch][j%n])
}

// plainRunes takes a text apart by the library's decoder.
func plainRunes(text string) []rune {
	var runes []rune
	for len(text) > 0 {
		r, size := utf8.DecodeRuneInString(text)
		runes = append(runes, r)
		text = text[size:]
	}
	return runes
}

func plainBucket(runes ...rune) int {
	h := fnv.New32a()
	for _, r := range runes {
		h.Write([]byte{byte(r >> 24), byte(r >> 16), byte(r >> 8), byte(r)})
	}
	return int(h.Sum32() % 32)
}

func plainCounts(text string) [32]int64 {
	var all [32]int64
	runes := plainRunes(text)
	for i, r := range runes {
		all[plainBucket(r)]++
		if i+1 < len(runes) {
			all[plainBucket(r, runes[i+1])]++
		}
	}
	for bucket := range all {
		all[bucket] = min(all[bucket], 7)
	}
	return all
}

func (p *plainRun) score(class int, text string) int64 {
	sum := new(big.Int)
	for bucket, count := range plainCounts(text) {
		sum.Add(sum, new(big.Int).Mul(big.NewInt(count), p.weights[class][bucket]))
	}
	return sum.Int64()
}

// best sorts the classes by score and takes the first that is not left out.
func (p *plainRun) best(text string, leftOut int) (int, int64) {
	classes := []int{0, 1, 2, 3}
	slices.SortStableFunc(classes, func(a, b int) int {
		return int(min(1, max(-1, p.score(b, text)-p.score(a, text))))
	})
	for _, class := range classes {
		if class != leftOut {
			return class, p.score(class, text)
		}
	}
	return -1, 0
}

// step gives, for each row, whether it missed.
func (p *plainRun) step() []bool {
	var pull [4][32]int64
	var missed []bool
	for row := range int(p.config.Batch) {
		e := p.examples[p.draw(p.steps*int(p.config.Batch)+row)]
		rival, most := p.best(e.Text, int(e.Label))
		miss := p.score(int(e.Label), e.Text)-most < 65536
		missed = append(missed, miss)
		if !miss {
			continue
		}
		for bucket, count := range plainCounts(e.Text) {
			pull[e.Label][bucket] += count
			pull[rival][bucket] -= count
		}
	}
	for class := range 4 {
		for bucket := range 32 {
			p.move(class, bucket, pull[class][bucket])
		}
	}
	p.steps++
	return missed
}

func (p *plainRun) move(class, bucket int, pull int64) {
	v := p.speeds[class][bucket]
	w := p.weights[class][bucket]
	v = floorOf(new(big.Int).Mul(v, big.NewInt(int64(p.config.Momentum))), 1<<16)
	v.Add(v, big.NewInt(pull*int64(p.config.Rate)))
	v = within(v, 1<<30)
	next := new(big.Int).Add(w, floorOf(v, 64))
	if p.config.Decay > 0 {
		next.Sub(next, floorOf(w, 1<<p.config.Decay))
	}
	p.speeds[class][bucket] = v
	p.weights[class][bucket] = within(next, 1<<24)
}

// floorOf divides and rounds down: Euclid's division does so by what is above 0.
func floorOf(x *big.Int, by int64) *big.Int {
	return new(big.Int).Div(x, big.NewInt(by))
}

func within(x *big.Int, most int64) *big.Int {
	return big.NewInt(min(max(x.Int64(), -most), most))
}

// cutRows gives how many rows of each worker missed: a row's worker is the one
// in whose part it ends, all counted in rows times workers, so without rounding.
func cutRows(missed []bool, workers int) []int {
	count := make([]int, workers)
	for row, miss := range missed {
		for k := range workers {
			end := (row + 1) * workers
			if miss && k*len(missed) < end && end <= (k+1)*len(missed) {
				count[k]++
			}
		}
	}
	return count
}

func (p *plainRun) weightsOf(class int) []int32 {
	var l []int32
	for _, w := range p.weights[class] {
		l = append(l, int32(w.Int64()))
	}
	return l
}

func (p *plainRun) status() api.Status {
	next := p.steps * int(p.config.Batch)
	return api.Status{Step: p.steps, Epoch: next / len(p.examples), Row: next % len(p.examples)}
}

// summed puts the sum behind bytes.
func summed(s string) string {
	return s + string(binary.LittleEndian.AppendUint32(nil, crc32.ChecksumIEEE([]byte(s))))
}

func plainMark(c api.Config, shard string) string {
	b := binary.LittleEndian.AppendUint64(nil, c.Seed)
	b = append(b, c.Batch)
	b = binary.LittleEndian.AppendUint32(b, uint32(c.Rate))
	b = binary.LittleEndian.AppendUint32(b, uint32(c.Momentum))
	b = append(b, c.Decay)
	return summed(string(b) + shard)[len(b)+len(shard):]
}

// save writes with the library, whose varints of numbers below 0 are those of P13.
func (p *plainRun) save() string {
	b := binary.AppendUvarint([]byte("DRL1"+p.mark), uint64(p.steps))
	for _, table := range [][4][32]*big.Int{p.weights, p.speeds} {
		for _, row := range table {
			for _, x := range row {
				b = binary.AppendVarint(b, x.Int64())
			}
		}
	}
	return summed(string(b))
}

// plainLoad reads with the library, which takes varints that are too long as
// well: such a save is told by its not being written so again. It is asked when
// New has nothing to refuse.
func plainLoad(c api.Config, shard string, save string) (*plainRun, api.Errno) {
	p := newPlainRun(c, shard)
	if len(save) < 8 {
		return nil, api.ErrSave
	}
	p.mark = save[4:8]
	rest := []byte(save[8:])
	steps, size := binary.Uvarint(rest)
	if size <= 0 || steps > 400 {
		return nil, api.ErrSave
	}
	p.steps = int(steps)
	rest = rest[size:]
	for i := range 256 {
		x, size := binary.Varint(rest)
		at, most := &p.weights[i/32%4][i%32], int64(1<<24)
		if i >= 128 {
			at, most = &p.speeds[i/32%4][i%32], 1<<30
		}
		if size <= 0 || x < -most || x > most {
			return nil, api.ErrSave
		}
		*at = big.NewInt(x)
		rest = rest[size:]
	}
	if p.save() != save {
		return nil, api.ErrSave
	}
	if p.mark != plainMark(c, shard) {
		return nil, api.ErrOther
	}
	return p, api.OK
}

// checkRun compares all that a run answers with the plain one, at the texts.
func checkRun(t *testing.T, r *drill.Run, p *plainRun, texts ...string) {
	t.Helper()
	if s := r.Status(); s != p.status() {
		t.Fatalf("P12: %+v: Status %+v, want %+v", p.config, s, p.status())
	}
	for class := range 4 {
		if l, err := r.Weights(class); !slices.Equal(l, p.weightsOf(class)) || err != api.OK {
			t.Fatalf("P11, P12: %+v, step %d: Weights(%d) = %v, %d, want %v", p.config, p.steps, class, l, err, p.weightsOf(class))
		}
	}
	if save := r.Save(); save != p.save() {
		t.Fatalf("P13: %+v, step %d: Save = %x, want %x", p.config, p.steps, save, p.save())
	}
	for _, text := range texts {
		class, score := p.best(text, -1)
		if k, s, err := r.Guess(text); k != class || s != score || err != api.OK {
			t.Fatalf("P12: %+v, step %d: Guess(%q) = %d, %d, %d, want %d, %d", p.config, p.steps, text, k, s, err, class, score)
		}
	}
}

func checkStep(t *testing.T, r *drill.Run, p *plainRun, workers int) {
	t.Helper()
	want := cutRows(p.step(), workers)
	if l, err := r.Step(workers); !slices.Equal(l, want) || err != api.OK {
		t.Fatalf("P11: %+v, step %d: Step(%d) = %v, %d, want %v", p.config, p.steps, workers, l, err, want)
	}
}

func newRun(t *testing.T, c api.Config, shard string) *drill.Run {
	t.Helper()
	r, err := drill.New(c, shard)
	if r == nil || err != api.OK {
		t.Fatalf("P7: New(%+v, %x) = %v, %d", c, shard, r, err)
	}
	return r
}

func shardOf(t *testing.T, l ...api.Example) string {
	t.Helper()
	shard := ""
	for _, e := range l {
		shard += frameOf(t, e)
	}
	return shard
}

// mixedText is a text of runes of each length, with broken bytes between.
func (r *numbers) mixedText(pieces int) string {
	some := []string{"a", "b", "ab", "é", "€", "😀", "\x00", "\xff", "\xe2\x82", "\xed\xa0\x80", "\xf4\x90\x80\x80", "\ufffd"}
	text := ""
	for range pieces {
		text += some[r.below(len(some))]
	}
	return text
}

func (r *numbers) config() api.Config {
	c := api.Config{
		Seed:     uint64(r.below(1<<30))<<34 ^ uint64(r.below(1<<30)),
		Batch:    uint8(1 + r.below(8)),
		Rate:     int32(r.below(65537)),
		Momentum: int32(r.below(65536)),
		Decay:    uint8(r.below(32)),
	}
	switch r.below(4) {
	case 0:
		c.Rate = 65536
	case 1:
		c.Momentum = 65535
	case 2:
		c.Decay = uint8(r.below(4))
	}
	return c
}

// shard gives frames of examples of a few bytes, with gaps, up to the most bytes.
func (r *numbers) shard(t *testing.T, records int) string {
	t.Helper()
	shard := ""
	for range records {
		f := frameOf(t, example(uint8(r.below(4)), r.mixedText(r.below(6))))
		gap := r.text(r.below(3))
		if len(shard)+len(gap)+len(f) > 600 {
			break
		}
		shard += gap + f
	}
	return shard
}
