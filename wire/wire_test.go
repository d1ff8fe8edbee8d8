package wire

import (
	"encoding/binary"
	"hash/crc32"
	"strings"
	"testing"
)

func TestSumOfTheDocument(t *testing.T) {
	if sum := Sum("123456789"); sum != 3421780262 {
		t.Errorf("Sum(123456789) = %d", sum)
	}
	if sum := Sum(""); sum != 0 {
		t.Errorf("Sum of no bytes = %d", sum)
	}
}

func TestSumAgainstTheLibrary(t *testing.T) {
	s := ""
	for i := 0; i < 700; i++ {
		if sum, want := Sum(s), crc32.ChecksumIEEE([]byte(s)); sum != want {
			t.Fatalf("Sum of %d bytes = %d, want %d", len(s), sum, want)
		}
		s += string([]byte{byte(i * i * 7)})
	}
	for b := 0; b < 256; b++ {
		s := string([]byte{byte(b)})
		if sum, want := Sum(s), crc32.ChecksumIEEE([]byte(s)); sum != want {
			t.Errorf("Sum of the byte %d = %d, want %d", b, sum, want)
		}
	}
}

func TestSumBytesLowestFirst(t *testing.T) {
	if got := LowFirst(0x01020304); got != "\x04\x03\x02\x01" {
		t.Errorf("LowFirst = %x", got)
	}
	if got := LowFirst(4294967295); got != "\xff\xff\xff\xff" {
		t.Errorf("LowFirst of the greatest = %x", got)
	}
	if got := SumBytes("123456789"); got != "\x26\x39\xf4\xcb" || len(got) != SumSize {
		t.Errorf("SumBytes = %x", got)
	}
}

func TestVarint(t *testing.T) {
	numbers := []uint64{0, 1, 126, 127, 128, 129, 201, 255, 256, 16383, 16384, 1 << 31, 1<<63 - 1, 1 << 63, 1<<64 - 1}
	for n := uint64(0); n < 1000; n++ {
		numbers = append(numbers, n)
	}
	for _, n := range numbers {
		want := string(binary.AppendUvarint(nil, n))
		if got := Varint(n); got != want {
			t.Errorf("Varint(%d) = %x, want %x", n, got, want)
		}
	}
}

func TestReadVarintReadsWhatVarintWrites(t *testing.T) {
	for _, n := range []uint64{0, 1, 127, 128, 201, 16383, 16384, 1 << 31, 1<<63 - 1} {
		for _, behind := range []string{"", "\x00", "\xff"} {
			v := Varint(n)
			got, to, ok := ReadVarint("ab"+v+behind, 2)
			if got != n || to != 2+len(v) || !ok {
				t.Errorf("ReadVarint of %x = %d, %d, %v, want %d", v, got, to, ok, n)
			}
		}
	}
}

func TestReadVarintRefuses(t *testing.T) {
	for _, s := range []string{"", "\x80", "\xff\xff", "\x80\x00", "\x81\x00", "\x83\x80\x00", "\xff\xff\xff\xff\x00", strings.Repeat("\xff", 9) + "\x01", strings.Repeat("\xff", 700), strings.Repeat("\x80", 700) + "\x01"} {
		if n, to, ok := ReadVarint(s, 0); n != 0 || to != 0 || ok {
			t.Errorf("ReadVarint(%.24x) = %d, %d, %v", s, n, to, ok)
		}
	}
	for _, at := range []int{-1 << 63, -1, 1, 2, 1<<63 - 1} {
		if n, to, ok := ReadVarint("\x05", at); n != 0 || to != 0 || ok {
			t.Errorf("ReadVarint at %d = %d, %d, %v", at, n, to, ok)
		}
	}
}
