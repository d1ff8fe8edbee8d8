package order

import (
	"math/big"
	"testing"
)

// bigMix is Mix by whole numbers of any size, cut to 64 bits by division.
func bigMix(z uint64) uint64 {
	wide := new(big.Int).Lsh(big.NewInt(1), 64)
	x := new(big.Int).SetUint64(z)
	for _, s := range []struct {
		shift uint
		times string
	}{{30, "13787848793156543929"}, {27, "10723151780598845931"}, {31, "1"}} {
		times, _ := new(big.Int).SetString(s.times, 10)
		x.Xor(x, new(big.Int).Rsh(x, s.shift))
		x.Mul(x, times)
		x.Mod(x, wide)
	}
	return x.Uint64()
}

func TestMixOfTheDocument(t *testing.T) {
	if z := Mix(0); z != 0 {
		t.Errorf("Mix(0) = %d", z)
	}
	if z := Mix(1); z != 6238072747940578789 {
		t.Errorf("Mix(1) = %d", z)
	}
}

func TestMixIsThatOfLargeNumbers(t *testing.T) {
	z := uint64(0)
	for range 2000 {
		for _, x := range []uint64{z, ^z, z >> 32, z << 32} {
			if got, want := Mix(x), bigMix(x); got != want {
				t.Fatalf("Mix(%d) = %d, want %d", x, got, want)
			}
		}
		z = z*6364136223846793005 + 1442695040888963407
	}
	for bit := range 64 {
		x := uint64(1) << bit
		if got, want := Mix(x), bigMix(x); got != want {
			t.Errorf("Mix(%d) = %d, want %d", x, got, want)
		}
	}
}

func TestP5HalfIsTheLeastThatHolds(t *testing.T) {
	for _, c := range []struct {
		n    uint32
		want uint
	}{
		{1, 1}, {2, 1}, {4, 1}, {5, 2}, {16, 2}, {17, 3}, {64, 3}, {65, 4}, {256, 4}, {257, 5},
		{1024, 5}, {1025, 6}, {4096, 6}, {4097, 7}, {16384, 7}, {16385, 8}, {65535, 8}, {65536, 8},
	} {
		if h := halfBits(c.n); h != c.want {
			t.Errorf("P5: h of %d = %d, want %d", c.n, h, c.want)
		}
	}
}

func TestP6UndoRoundUndoesEveryRound(t *testing.T) {
	for half := uint(1); half <= 8; half++ {
		for _, seed := range []uint64{0, 1, 1 << 63, 1<<64 - 1} {
			for x := uint32(0); x < 1<<(2*half); x++ {
				y := round(seed, half, x)
				if y >= 1<<(2*half) || undoRound(seed, half, y) != x {
					t.Fatalf("P6: half %d, seed %d: %d goes to %d, and back to %d", half, seed, x, y, undoRound(seed, half, y))
				}
			}
		}
	}
}
