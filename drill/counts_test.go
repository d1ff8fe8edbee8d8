package drill_test

import (
	"strings"
	"testing"
	"unicode/utf8"

	"drill/api"
)

// checkCounts has a run learn a text in one step, at a rate by which the weights
// come to be the counts.
func checkCounts(t *testing.T, text string) {
	t.Helper()
	r := newRun(t, api.Config{Batch: 1, Rate: 64}, shardOf(t, example(2, text)))
	r.Step(1)
	got, _ := r.Weights(2)
	off, _ := r.Weights(0)
	for bucket, want := range plainCounts(text) {
		if int64(got[bucket]) != want || int64(off[bucket]) != -want {
			t.Fatalf("P9: the counts of %q: bucket %d: %d (and %d), want %d", text, bucket, got[bucket], off[bucket], want)
		}
	}
}

// Buckets by number, so that a slip that the program and plainCounts share is seen.
func TestP9BucketsWrittenDown(t *testing.T) {
	for _, c := range []struct {
		text string
		want map[int]int32
	}{
		{"", nil},
		{"a", map[int]int32{2: 1}},
		{"aa", map[int]int32{2: 2, 21: 1}},
		{"bb", map[int]int32{5: 1, 15: 2}},
		{"é€", map[int]int32{1: 1, 22: 1, 26: 1}},
		{"\xffa\xe2\x82", map[int]int32{2: 1, 14: 1, 17: 3, 29: 1, 30: 1}},
	} {
		r := newRun(t, api.Config{Batch: 1, Rate: 64}, shardOf(t, example(2, c.text)))
		r.Step(1)
		l, _ := r.Weights(2)
		for bucket, got := range l {
			if got != c.want[bucket] {
				t.Errorf("P9: %q: bucket %d: %d, want %d", c.text, bucket, got, c.want[bucket])
			}
		}
	}
}

func TestP9EveryByteAlone(t *testing.T) {
	for b := range 256 {
		one := string([]byte{byte(b)})
		checkCounts(t, one)
		checkCounts(t, one+"a")
		checkCounts(t, "a"+one)
		checkCounts(t, one+one)
	}
}

func TestP9RunesOfEveryLength(t *testing.T) {
	for _, r := range []rune{0, 1, 127, 128, 255, 256, 2047, 2048, 55295, 57344, 65533, 65535, 65536, 1 << 20, utf8.MaxRune} {
		checkCounts(t, string(r))
		checkCounts(t, string(r)+"x")
		checkCounts(t, "é"+string(r))
	}
}

func TestP9BrokenText(t *testing.T) {
	for _, text := range []string{
		"\x80", "\xc0\x80", "\xc1\xbf", "\xc3", "\xc3\xc3\xa9", "\xe0\x80\x80", "\xe2\x82", "\xe2\x82a", "\xe2\x28\xa1",
		"\xed\xa0\x80", "\xed\xbf\xbf", "\xf0\x80\x80\x80", "\xf0\x9f\x98", "\xf0\x9f\x98a", "\xf4\x90\x80\x80", "\xf5\x80\x80\x80",
		"\xf8\x88\x80\x80\x80", "\xff\xfe", "\xff\ufffd\xff", "a\x80b", strings.Repeat("\xff", 200),
	} {
		checkCounts(t, text)
	}
}

// A broken byte is the rune 65533, as if that stood there.
func TestP9ABrokenByteIsOneRune(t *testing.T) {
	for text, same := range map[string]string{
		"\xff":         "\ufffd",
		"\xe2\x82":     "\ufffd\ufffd",
		"\xed\xa0\x80": "\ufffd\ufffd\ufffd",
		"a\xe2\x82b":   "a\ufffd\ufffdb",
	} {
		if plainCounts(text) != plainCounts(same) {
			t.Errorf("P9: the plain counts of %q and %q differ", text, same)
		}
		checkCounts(t, text)
		checkCounts(t, same)
	}
}

func TestP9ACountThatIsSevenStays(t *testing.T) {
	for n := 0; n <= 200; n++ {
		checkCounts(t, strings.Repeat("a", n))
	}
	for n := 0; n <= 50; n++ {
		checkCounts(t, strings.Repeat("€", n))
		checkCounts(t, strings.Repeat("ab", n))
	}
}

func TestP9AnyText(t *testing.T) {
	r := numbers{9}
	for range 500 {
		checkCounts(t, r.text(r.below(201)))
		checkCounts(t, r.text(r.below(8)))
		checkCounts(t, r.mixedText(r.below(40)))
	}
}
