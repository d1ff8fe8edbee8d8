package drill_test

import (
	"encoding/binary"
	"hash/crc32"
	"strings"
	"testing"

	"drill/api"
	"drill/drill"
)

func example(label uint8, text string) api.Example { return api.Example{Label: label, Text: text} }

func record(from, to int, e api.Example) api.Record {
	return api.Record{From: from, To: to, Example: e}
}

// framed lays a frame around any body, with the library's varint and sum: the
// body need be none of an example.
func framed(body string) string {
	return sized(string(binary.AppendUvarint(nil, uint64(len(body)))), body)
}

// sized is framed with the size's bytes as given.
func sized(size string, body string) string {
	sum := binary.LittleEndian.AppendUint32(nil, crc32.ChecksumIEEE([]byte(body)))
	return "\xd5" + size + body + string(sum)
}

func frameOf(t *testing.T, e api.Example) string {
	t.Helper()
	s, err := drill.Frame(e)
	if err != api.OK {
		t.Fatalf("P3: Frame(%v): %d", e, err)
	}
	return s
}

// plainScan finds records the slow way: at each place it lays every frame that
// could stand there, of every length, beside the shard.
func plainScan(shard string) ([]api.Record, []api.Gap) {
	var found []api.Record
	var gaps []api.Gap
	at := 0
	for at < len(shard) {
		r, ok := plainRecord(shard, at)
		if ok {
			found = append(found, r)
			at = r.To
			continue
		}
		if len(gaps) > 0 && gaps[len(gaps)-1].To == at {
			gaps[len(gaps)-1].To = at + 1
		} else {
			gaps = append(gaps, api.Gap{From: at, To: at + 1})
		}
		at++
	}
	return found, gaps
}

func plainRecord(shard string, at int) (api.Record, bool) {
	for n := 1; n <= 201; n++ {
		bodyFrom := at + 1 + len(binary.AppendUvarint(nil, uint64(n)))
		if bodyFrom+n > len(shard) {
			return api.Record{}, false
		}
		body := shard[bodyFrom : bodyFrom+n]
		if body[0] > 3 {
			continue
		}
		if f := framed(body); strings.HasPrefix(shard[at:], f) {
			return record(at, at+len(f), example(body[0], body[1:])), true
		}
	}
	return api.Record{}, false
}

// numbers is a fixed row of numbers without a pattern, the same at each run.
type numbers struct{ state uint64 }

func (r *numbers) below(n int) int {
	r.state = r.state*6364136223846793005 + 1442695040888963407
	return int((r.state >> 33) % uint64(n))
}

func (r *numbers) text(n int) string {
	b := make([]byte, n)
	for i := range b {
		b[i] = byte(r.below(256))
	}
	return string(b)
}
