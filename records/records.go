// Package records: examples as frames, and the search for frames in a shard.
package records

import (
	"drill/api"
	"drill/wire"
)

const firstByte = 213

// Frame gives the frame of an example (P3).
func Frame(e api.Example) (string, api.Errno) {
	if e.Label >= api.Classes {
		return "", api.ErrLabel
	}
	if len(e.Text) > api.MaxText {
		return "", api.ErrText
	}
	body := string([]byte{e.Label}) + e.Text
	size := wire.Varint(uint64(len(body)))
	sum := wire.SumBytes(body)
	return string([]byte{firstByte}) + size + body + sum, api.OK
}

// Scan finds the records of a shard and the gaps between them (P4).
func Scan(shard string) ([]api.Record, []api.Gap, api.Errno) {
	if len(shard) > api.MaxShard {
		return nil, nil, api.ErrText
	}
	var found []api.Record
	var gaps []api.Gap
	gapFrom := 0
	at := 0
	for at < len(shard) {
		record, ok := recordAt(shard, at)
		if !ok {
			at++
			continue
		}
		if gapFrom < at {
			gaps = append(gaps, api.Gap{From: gapFrom, To: at})
		}
		found = append(found, record)
		at = record.To
		gapFrom = at
	}
	if gapFrom < at {
		gaps = append(gaps, api.Gap{From: gapFrom, To: at})
	}
	return found, gaps, api.OK
}

// recordAt gives the record whose frame begins at a place of the shard, or
// false if no whole frame begins there. Its To is always behind the place.
func recordAt(shard string, at int) (api.Record, bool) {
	if at < 0 || at >= len(shard) || shard[at] != firstByte {
		return api.Record{}, false
	}
	size, bodyFrom, ok := wire.ReadVarint(shard, at+1)
	if !ok || size < 1 || size > api.MaxText+1 {
		return api.Record{}, false
	}
	bodyTo := bodyFrom + int(size)
	to := bodyTo + wire.SumSize
	if to > len(shard) {
		return api.Record{}, false
	}
	body := shard[bodyFrom:bodyTo]
	if body[0] >= api.Classes {
		return api.Record{}, false
	}
	sum := wire.SumBytes(body)
	if sum != shard[bodyTo:to] {
		return api.Record{}, false
	}
	example := api.Example{Label: body[0], Text: body[1:]}
	return api.Record{From: at, To: to, Example: example}, true
}
