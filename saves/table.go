package saves

import (
	"drill/api"
	"drill/wire"
)

// table has a number for each class and each bucket.
type table struct {
	of [api.Classes][api.Buckets]int64
}

func widened(weights [api.Classes][api.Buckets]int32) table {
	var t table
	for class, row := range weights {
		for bucket, weight := range row {
			t.of[class][bucket] = int64(weight)
		}
	}
	return t
}

// narrowed gives a table of numbers from -Cap to Cap as weights.
func narrowed(t table) [api.Classes][api.Buckets]int32 {
	var weights [api.Classes][api.Buckets]int32
	for class, row := range t.of {
		for bucket, number := range row {
			weights[class][bucket] = int32(number)
		}
	}
	return weights
}

func tableBytes(t table) string {
	bytes := ""
	for _, row := range t.of {
		for _, number := range row {
			bytes = bytes + numberBytes(number)
		}
	}
	return bytes
}

// readTable reads a table of numbers from -most to most that begins at a place.
// It gives the table and the place behind it, or false if none begins there.
func readTable(save string, at int, most int64) (table, int, bool) {
	var t table
	for class := 0; class < api.Classes; class++ {
		for bucket := 0; bucket < api.Buckets; bucket++ {
			number, to, ok := readNumber(save, at)
			if !ok || number < -most || number > most {
				return table{}, 0, false
			}
			t.of[class][bucket] = number
			at = to
		}
	}
	return t, at, true
}

// numberBytes gives the bytes of a number that may be below 0: its varint is an
// even number's if it is not, and an odd one's if it is.
func numberBytes(number int64) string {
	if number < 0 {
		return wire.Varint(uint64(-number)*2 - 1)
	}
	return wire.Varint(uint64(number) * 2)
}

// readNumber reads a number that begins at a place. It gives the number and the
// place behind it, or false if none begins there.
func readNumber(save string, at int) (int64, int, bool) {
	n, to, ok := wire.ReadVarint(save, at)
	if !ok {
		return 0, 0, false
	}
	half := int64(n / 2)
	if n%2 == 1 {
		return -half - 1, to, true
	}
	return half, to, true
}
