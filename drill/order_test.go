package drill_test

import (
	"testing"

	"drill/api"
	"drill/drill"
)

// plainOrder gives the whole order of n numbers: it lays out what a round does
// to every number below 4 to the h, and then follows that table.
func plainOrder(seed uint64, n uint32) []uint32 {
	h, all := 1, uint32(4)
	for all < n {
		h, all = h+1, all*4
	}
	next := make([]uint32, all)
	for x := range all {
		next[x] = plainRound(seed, uint32(1)<<h, x)
	}
	places := make([]uint32, n)
	for i := range n {
		x := next[i]
		for steps := uint32(0); x >= n; steps++ {
			if steps > all {
				return nil
			}
			x = next[x]
		}
		places[i] = x
	}
	return places
}

// plainRound is a round by quotients and remainders, with its four turns
// written out. Side is 2 to the h.
func plainRound(seed uint64, side uint32, x uint32) uint32 {
	key := func(k uint64, r uint32) uint32 {
		z := seed + k*11400714819323198485 + uint64(r)
		z = (z ^ z>>30) * 13787848793156543929
		z = (z ^ z>>27) * 10723151780598845931
		z = z ^ z>>31
		return uint32(z % uint64(side))
	}
	a, b := x/side, x%side
	c := a ^ key(1, b)
	d := b ^ key(2, c)
	e := c ^ key(3, d)
	f := d ^ key(4, e)
	return e*side + f
}

func checkOrder(t *testing.T, seed uint64, n uint32) {
	t.Helper()
	places := plainOrder(seed, n)
	if uint32(len(places)) != n {
		t.Fatalf("P5: seed %d, n %d: the plain order does not end", seed, n)
	}
	seen := make([]bool, n)
	for i, want := range places {
		p, err := drill.Place(seed, n, uint32(i))
		if p != want || err != api.OK {
			t.Fatalf("P5: Place(%d, %d, %d) = %d, %d, want %d", seed, n, i, p, err, want)
		}
		if seen[p] {
			t.Fatalf("P6: Place(%d, %d, …) gives %d twice", seed, n, p)
		}
		seen[p] = true
		b, err := drill.Back(seed, n, p)
		if b != uint32(i) || err != api.OK {
			t.Fatalf("P6: Back(%d, %d, %d) = %d, %d, want %d", seed, n, p, b, err, i)
		}
	}
}

// edgeSeeds wrap around 64 bits at one of the turns, or stand at an end.
var edgeSeeds = []uint64{
	0, 1, 7, 1 << 63, 1<<64 - 1, 1<<64 - 2,
	7046029254386353131, // with one key step it is 0
	7046029254386353130, // and with this one step it is 2 to the 64 less 1
}

func TestP5P6EverySmallOrder(t *testing.T) {
	r := numbers{5}
	for n := uint32(1); n <= 300; n++ {
		seed := uint64(r.below(1<<30))<<34 ^ uint64(r.below(1<<30))
		checkOrder(t, seed, n)
		checkOrder(t, edgeSeeds[int(n)%len(edgeSeeds)], n)
	}
}

func TestP5P6OrdersAtTheEdges(t *testing.T) {
	for _, n := range []uint32{1, 2, 3, 4, 5, 15, 16, 17, 63, 64, 65, 255, 256, 257, 1023, 1024, 1025} {
		for _, seed := range edgeSeeds {
			checkOrder(t, seed, n)
		}
	}
	for _, n := range []uint32{4095, 4096, 4097, 16383, 16384, 16385, 65535, 65536} {
		checkOrder(t, 20261115, n)
		checkOrder(t, 1<<64-1, n)
	}
}

// Places by number, so that a slip that Place and plainOrder share is seen.
func TestP5PlacesWrittenDown(t *testing.T) {
	for _, c := range []struct {
		seed    uint64
		n, i, p uint32
	}{
		{7, 10, 0, 6}, {7, 10, 9, 5}, {0, 1000, 999, 468}, {12345678901234567890, 65536, 40000, 58572},
	} {
		if p, err := drill.Place(c.seed, c.n, c.i); p != c.p || err != api.OK {
			t.Errorf("P5: Place(%d, %d, %d) = %d, %d, want %d", c.seed, c.n, c.i, p, err, c.p)
		}
	}
}

func TestP5P6OfOneNumber(t *testing.T) {
	r := numbers{6}
	for range 1000 {
		seed := uint64(r.below(1<<30))<<34 ^ uint64(r.below(1<<30))
		p, err := drill.Place(seed, 1, 0)
		b, back := drill.Back(seed, 1, 0)
		if p != 0 || err != api.OK || b != 0 || back != api.OK {
			t.Fatalf("P5, P6: seed %d, n 1: Place %d, %d; Back %d, %d", seed, p, err, b, back)
		}
	}
}

func TestP5OtherSeedsGiveOtherOrders(t *testing.T) {
	same := 0
	for i := uint32(0); i < 1000; i++ {
		a, _ := drill.Place(1, 1000, i)
		b, _ := drill.Place(2, 1000, i)
		c, _ := drill.Place(1+1<<40, 1000, i)
		if a == b || a == c {
			same++
		}
	}
	if same > 20 {
		t.Errorf("P5: %d of 1000 places are the same by another seed", same)
	}
}

func TestP5P6Refuse(t *testing.T) {
	const most = 1<<32 - 1
	for _, seed := range edgeSeeds {
		for _, c := range []struct{ n, i uint32 }{
			{0, 0}, {0, 1}, {0, most},
			{1, 1}, {1, most}, {10, 10}, {10, 11}, {10, 15}, {10, 16}, {10, most},
			{65535, 65535}, {65536, 65536}, {65536, 65537}, {65536, most},
			{65537, 0}, {65537, 65536}, {65537, 65537}, {1 << 31, 5}, {most, 0}, {most, most - 1}, {most, most},
		} {
			if p, err := drill.Place(seed, c.n, c.i); p != 0 || err != api.ErrRange {
				t.Errorf("P5: Place(%d, %d, %d) = %d, %d", seed, c.n, c.i, p, err)
			}
			if b, err := drill.Back(seed, c.n, c.i); b != 0 || err != api.ErrRange {
				t.Errorf("P6: Back(%d, %d, %d) = %d, %d", seed, c.n, c.i, b, err)
			}
		}
	}
}

func TestP5P6LastNumbersAreNotRefused(t *testing.T) {
	for _, n := range []uint32{1, 2, 10, 65535, 65536} {
		if _, err := drill.Place(3, n, n-1); err != api.OK {
			t.Errorf("P5: Place(3, %d, %d): %d", n, n-1, err)
		}
		if _, err := drill.Back(3, n, n-1); err != api.OK {
			t.Errorf("P6: Back(3, %d, %d): %d", n, n-1, err)
		}
	}
}

func TestP2PlaceAndBackHangOnTheirArgumentsAlone(t *testing.T) {
	p, _ := drill.Place(7, 10, 3)
	b, _ := drill.Back(7, 10, 3)
	drill.Place(8, 65536, 65535)
	drill.Back(9, 10, 10)
	drill.Scan(frameOf(t, example(1, "ab")))
	if again, err := drill.Place(7, 10, 3); again != p || err != api.OK {
		t.Errorf("P2: Place = %d, then %d, %d", p, again, err)
	}
	if again, err := drill.Back(7, 10, 3); again != b || err != api.OK {
		t.Errorf("P2: Back = %d, then %d, %d", b, again, err)
	}
}

func FuzzPlace(f *testing.F) {
	f.Add(uint64(7), uint32(10), uint32(3))
	f.Add(uint64(1<<64-1), uint32(65536), uint32(65535))
	f.Add(uint64(0), uint32(0), uint32(0))
	f.Fuzz(func(t *testing.T, seed uint64, n uint32, i uint32) {
		p, err := drill.Place(seed, n, i)
		b, back := drill.Back(seed, n, i)
		if n == 0 || n > 65536 || i >= n {
			if p != 0 || err != api.ErrRange || b != 0 || back != api.ErrRange {
				t.Fatalf("P5, P6: (%d, %d, %d): Place %d, %d; Back %d, %d", seed, n, i, p, err, b, back)
			}
			return
		}
		if there, _ := drill.Back(seed, n, p); there != i || p >= n || err != api.OK {
			t.Fatalf("P6: Place(%d, %d, %d) = %d, %d, and back %d", seed, n, i, p, err, there)
		}
		if there, _ := drill.Place(seed, n, b); there != i || b >= n || back != api.OK {
			t.Fatalf("P6: Back(%d, %d, %d) = %d, %d, and its place %d", seed, n, i, b, back, there)
		}
	})
}
