package learn

import "drill/api"

const (
	hashStart = 2166136261
	hashTimes = 16777619
)

// counts has, for each bucket, how many runes and pairs of a text fell into it.
type counts struct {
	of [api.Buckets]int64
}

// countsOf gives the counts of a text (P9).
func countsOf(text string) counts {
	var found counts
	last := uint32(hashStart)
	for at, r := range text {
		if at > 0 {
			// The bytes of a pair begin with those of its first rune, so its
			// hash goes on from there.
			pair := hashRune(last, r)
			found.add(pair)
		}
		last = hashRune(hashStart, r)
		found.add(last)
	}
	return found
}

func (c *counts) add(hash uint32) {
	bucket := hash % api.Buckets
	if c.of[bucket] < api.Most {
		c.of[bucket]++
	}
}

// hashRune goes on from a hash with the four bytes of a rune, the highest first.
func hashRune(hash uint32, r rune) uint32 {
	rest := uint32(r)
	for k := 0; k < 4; k++ {
		hash = (hash ^ (rest >> 24)) * hashTimes
		rest = rest << 8
	}
	return hash
}
