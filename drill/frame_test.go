package drill_test

import (
	"strings"
	"testing"

	"drill/api"
	"drill/drill"
)

func TestP3FrameOfTheDocument(t *testing.T) {
	for _, c := range []struct {
		e    api.Example
		want string
	}{
		{example(1, "ab"), "\xd5\x03\x01ab\xb7\xe9\xd9\x21"},
		{example(0, ""), "\xd5\x01\x00\x8d\xef\x02\xd2"},
		{example(3, "\x00"), "\xd5\x02\x03\x00\x3c\x41\xf4\x6a"},
	} {
		if s, err := drill.Frame(c.e); s != c.want || err != api.OK {
			t.Errorf("P3: Frame(%v) = %x, %d, want %x", c.e, s, err, c.want)
		}
	}
}

func TestP3FrameOfEveryLabelAndLength(t *testing.T) {
	r := numbers{1}
	for label := uint8(0); label < 4; label++ {
		for n := 0; n <= 200; n++ {
			text := r.text(n)
			want := framed(string([]byte{label}) + text)
			if s, err := drill.Frame(example(label, text)); s != want || err != api.OK {
				t.Fatalf("P3: Frame of label %d and %d bytes = %x, %d, want %x", label, n, s, err, want)
			}
		}
	}
}

func TestP3VarintGetsItsSecondByte(t *testing.T) {
	for _, c := range []struct {
		n    int
		head string
		size int
	}{
		{126, "\xd5\x7f\x02", 133},
		{127, "\xd5\x80\x01\x02", 135},
		{200, "\xd5\xc9\x01\x02", 208},
	} {
		s, err := drill.Frame(example(2, strings.Repeat("x", c.n)))
		if err != api.OK || len(s) != c.size || !strings.HasPrefix(s, c.head) {
			t.Errorf("P3: a text of %d bytes: %x, %d", c.n, s, err)
		}
	}
}

func TestP3FrameOfAnyBytes(t *testing.T) {
	for b := 0; b < 256; b++ {
		text := string([]byte{byte(b)})
		want := framed("\x02" + text)
		if s, err := drill.Frame(example(2, text)); s != want || err != api.OK {
			t.Errorf("P3: Frame of the byte %d = %x, %d, want %x", b, s, err, want)
		}
	}
}

func TestP3FrameRefuses(t *testing.T) {
	for label := 4; label < 256; label++ {
		for _, n := range []int{0, 200, 201, 5000} {
			s, err := drill.Frame(example(uint8(label), strings.Repeat("x", n)))
			if s != "" || err != api.ErrLabel {
				t.Errorf("P3: label %d, %d bytes: %x, %d", label, n, s, err)
			}
		}
	}
	for label := uint8(0); label < 4; label++ {
		for _, n := range []int{201, 202, 255, 256, 100000} {
			s, err := drill.Frame(example(label, strings.Repeat("x", n)))
			if s != "" || err != api.ErrText {
				t.Errorf("P3: label %d, %d bytes: %x, %d", label, n, s, err)
			}
		}
	}
}

func TestP2FrameHangsOnItsArgumentAlone(t *testing.T) {
	first := frameOf(t, example(1, "ab"))
	drill.Frame(example(3, strings.Repeat("z", 200)))
	drill.Frame(example(9, "ab"))
	drill.Scan(first + first)
	if again := frameOf(t, example(1, "ab")); again != first {
		t.Errorf("P2: Frame = %x, then %x", first, again)
	}
}
