package saves

import (
	"encoding/binary"
	"testing"

	"drill/api"
	"drill/learn"
)

// No weight and no speed is so great, but every number has its bytes.
func TestNumberBytes(t *testing.T) {
	numbers := []int64{0, 1, -1, 63, 64, -64, -65, 1 << 30, -1 << 30, 1<<62 - 1, 1 << 62, -1 << 62, -1<<62 - 1, 1<<63 - 1, -1<<63 + 1, -1 << 63}
	for x := int64(-300); x <= 300; x++ {
		numbers = append(numbers, x)
	}
	for _, x := range numbers {
		want := string(binary.AppendVarint(nil, x))
		if got := numberBytes(x); got != want {
			t.Errorf("P13: numberBytes(%d) = %x, want %x", x, got, want)
		}
	}
}

func TestReadNumber(t *testing.T) {
	for _, x := range []int64{0, 1, -1, 63, 64, -64, -65, 1 << 30, -1 << 30, 1<<62 - 1, -1 << 62} {
		bytes := string(binary.AppendVarint(nil, x))
		if got, to, ok := readNumber("ab"+bytes+"\x01", 2); got != x || to != 2+len(bytes) || !ok {
			t.Errorf("P14: readNumber of %x = %d, %d, %v, want %d", bytes, got, to, ok, x)
		}
	}
	// Beyond these a varint has a tenth byte.
	for _, x := range []int64{1 << 62, -1<<62 - 1, 1<<63 - 1, -1 << 63} {
		bytes := string(binary.AppendVarint(nil, x))
		if got, to, ok := readNumber(bytes, 0); got != 0 || to != 0 || ok {
			t.Errorf("P14: readNumber of %x = %d, %d, %v", bytes, got, to, ok)
		}
	}
}

func TestReadGivesWhatWasWritten(t *testing.T) {
	s := State{Mark: "mark", Steps: 400}
	for class := range s.Learner.Weights {
		for bucket := range s.Learner.Weights[class] {
			s.Learner.Weights[class][bucket] = int32(class*1000+bucket) * (1 - 2*int32(bucket%2))
			s.Learner.Speeds[class][bucket] = int64(bucket*100000+class) * (2*int64(class%2) - 1)
		}
	}
	s.Learner.Weights[1][2] = -api.Cap
	s.Learner.Speeds[3][31] = learn.SpeedCap
	if got, ok := Read(Write(s)); got != s || !ok {
		t.Errorf("P14: %+v, %v, want %+v", got, ok, s)
	}
	s.Steps = 401
	if got, ok := Read(Write(s)); got != (State{}) || ok {
		t.Errorf("P14: %+v, %v", got, ok)
	}
}

func TestEndsInSum(t *testing.T) {
	const save = "123456789\x26\x39\xf4\xcb"
	for at := -2; at <= len(save)+2; at++ {
		if ok := endsInSum(save, at); ok != (at == 9) {
			t.Errorf("endsInSum at %d: %v", at, ok)
		}
	}
	if endsInSum(save+"\x00", 9) || endsInSum(save[:12], 9) {
		t.Errorf("a byte more or less is no sum")
	}
}
