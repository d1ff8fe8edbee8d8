package drill_test

import (
	"slices"
	"strings"
	"testing"

	"drill/api"
	"drill/drill"
)

func checkScan(t *testing.T, name string, shard string, records []api.Record, gaps []api.Gap) {
	t.Helper()
	l, g, err := drill.Scan(shard)
	if !slices.Equal(l, records) || !slices.Equal(g, gaps) || err != api.OK {
		t.Errorf("P4: %s: Scan(%x) = %v, %v, %d, want %v, %v", name, shard, l, g, err, records, gaps)
	}
}

func TestP4ScanOrdinary(t *testing.T) {
	ab := frameOf(t, example(1, "ab"))
	no := frameOf(t, example(0, ""))
	checkScan(t, "empty", "", nil, nil)
	checkScan(t, "no frame", "xyz", nil, []api.Gap{{From: 0, To: 3}})
	checkScan(t, "one frame", ab, []api.Record{record(0, 9, example(1, "ab"))}, nil)
	checkScan(t, "the document's", "x"+ab+"yz", []api.Record{record(1, 10, example(1, "ab"))},
		[]api.Gap{{From: 0, To: 1}, {From: 10, To: 12}})
	checkScan(t, "frames side by side", ab+no+ab,
		[]api.Record{record(0, 9, example(1, "ab")), record(9, 16, example(0, "")), record(16, 25, example(1, "ab"))}, nil)
	checkScan(t, "a gap between", no+"?"+no,
		[]api.Record{record(0, 7, example(0, "")), record(8, 15, example(0, ""))}, []api.Gap{{From: 7, To: 8}})
}

func TestP4ScanFindsEveryFrame(t *testing.T) {
	r := numbers{2}
	for label := uint8(0); label < 4; label++ {
		for n := 0; n <= 200; n++ {
			e := example(label, r.text(n))
			f := frameOf(t, e)
			checkScan(t, "a frame of Frame", "ab"+f+"c", []api.Record{record(2, 2+len(f), e)},
				[]api.Gap{{From: 0, To: 2}, {From: 2 + len(f), To: 3 + len(f)}})
		}
	}
}

func TestP4ScanOfFullShards(t *testing.T) {
	y := strings.Repeat("y", 200)
	z := strings.Repeat("z", 176)
	full := frameOf(t, example(2, y)) + frameOf(t, example(3, y)) + frameOf(t, example(0, z))
	if len(full) != 600 {
		t.Fatalf("the shard has %d bytes", len(full))
	}
	checkScan(t, "600 bytes, all frames", full,
		[]api.Record{record(0, 208, example(2, y)), record(208, 416, example(3, y)), record(416, 600, example(0, z))}, nil)
	checkScan(t, "600 bytes, no frame", strings.Repeat("\xd5", 600), nil, []api.Gap{{From: 0, To: 600}})
	for _, s := range []string{full + "x", "\xd5" + full, strings.Repeat("x", 601), strings.Repeat("\xd5", 100000)} {
		if l, g, err := drill.Scan(s); len(l) != 0 || len(g) != 0 || err != api.ErrText {
			t.Errorf("P4: Scan of %d bytes = %v, %v, %d", len(s), l, g, err)
		}
	}
}

func TestP4NoFrameOfAnExample(t *testing.T) {
	long := strings.Repeat("x", 201)
	for _, c := range []struct{ name, shard string }{
		{"label 4", framed("\x04a")},
		{"label 4 alone", framed("\x04")},
		{"label 213", framed("\xd5")},
		{"label 255", framed("\xff" + long[:200])},
		{"no body", framed("")},
		{"a text of 201 bytes", framed("\x02" + long)},
		{"a text of 256 bytes", framed("\x02" + long + long[:55])},
		{"a varint of two bytes for 1", sized("\x81\x00", "\x00")},
		{"a varint of two bytes for 3", sized("\x83\x00", "\x01ab")},
		{"a varint of three bytes for 3", sized("\x83\x80\x00", "\x01ab")},
		{"a varint of three bytes for 128", sized("\x80\x81\x00", "\x01"+long[:127])},
		{"a varint of two bytes for 0", sized("\x80\x00", "")},
		{"a varint that is 3 modulo 2 to the 32", sized("\x83\x80\x80\x80\x10", "\x01ab")},
		{"a varint that is 3 modulo 2 to the 64", sized("\x83\x80\x80\x80\x80\x80\x80\x80\x80\x02", "\x01ab")},
		{"a varint that does not end", "\xd5" + strings.Repeat("\xff", 599)},
		{"another first byte", "\xd4" + framed("\x01ab")[1:]},
	} {
		checkScan(t, c.name, c.shard, nil, []api.Gap{{From: 0, To: len(c.shard)}})
	}
}

func TestP4BrokenSums(t *testing.T) {
	for _, text := range []string{"", "ab", strings.Repeat("y", 127), strings.Repeat("z", 200)} {
		good := frameOf(t, example(1, text))
		for i := range good {
			for bit := 0; bit < 8; bit++ {
				b := []byte(good)
				b[i] ^= 1 << bit
				checkScan(t, "one bit turned", string(b), nil, []api.Gap{{From: 0, To: len(good)}})
			}
		}
		reversed := []byte(good)
		slices.Reverse(reversed[len(good)-4:])
		checkScan(t, "the sum's highest byte first", string(reversed), nil, []api.Gap{{From: 0, To: len(good)}})
	}
}

func TestP4CutShort(t *testing.T) {
	for _, text := range []string{"", "ab", strings.Repeat("y", 126), strings.Repeat("z", 200)} {
		good := frameOf(t, example(1, text))
		for n := 1; n < len(good); n++ {
			cut := good[:n]
			checkScan(t, "cut short", cut, nil, []api.Gap{{From: 0, To: n}})
			checkScan(t, "cut short before a whole one", cut+good,
				[]api.Record{record(n, n+len(good), example(1, text))}, []api.Gap{{From: 0, To: n}})
			checkScan(t, "cut short behind a whole one", good+cut,
				[]api.Record{record(0, len(good), example(1, text))}, []api.Gap{{From: len(good), To: len(good) + n}})
		}
	}
}

func TestP4FramesBesideAndWithinBrokenBytes(t *testing.T) {
	ab := frameOf(t, example(1, "ab"))
	no := frameOf(t, example(0, ""))
	inner := frameOf(t, example(3, no))
	checkScan(t, "a frame within a whole frame", inner, []api.Record{record(0, 14, example(3, no))}, nil)
	checkScan(t, "a frame within a broken one", inner[:13]+"\x00", []api.Record{record(3, 10, example(0, ""))},
		[]api.Gap{{From: 0, To: 3}, {From: 10, To: 14}})
	checkScan(t, "a frame within one of no label", framed("\x04"+no), []api.Record{record(3, 10, example(0, ""))},
		[]api.Gap{{From: 0, To: 3}, {From: 10, To: 14}})
	checkScan(t, "a frame behind a first byte", "\xd5"+ab, []api.Record{record(1, 10, example(1, "ab"))},
		[]api.Gap{{From: 0, To: 1}})
	checkScan(t, "a frame behind a head", "\xd5\x05"+ab+no,
		[]api.Record{record(2, 11, example(1, "ab")), record(11, 18, example(0, ""))}, []api.Gap{{From: 0, To: 2}})
	checkScan(t, "a frame behind a broken one", ab[:8]+"\x20"+no, []api.Record{record(9, 16, example(0, ""))},
		[]api.Gap{{From: 0, To: 9}})
	checkScan(t, "a frame before a broken one", no+ab[:8]+"\x20", []api.Record{record(0, 7, example(0, ""))},
		[]api.Gap{{From: 7, To: 16}})
	checkScan(t, "a gap of two broken ones", no+ab[:8]+"\x20"+ab[:5]+no,
		[]api.Record{record(0, 7, example(0, "")), record(21, 28, example(0, ""))}, []api.Gap{{From: 7, To: 21}})
}

func TestP4ScanAgainstThePlainOne(t *testing.T) {
	r := numbers{3}
	for round := 0; round < 3000; round++ {
		shard := ""
		for len(shard) < 80 {
			switch r.below(6) {
			case 0:
				shard += r.text(r.below(4))
			case 1:
				shard += "\xd5"
			case 2:
				shard += framed(r.text(r.below(6)))
			case 3:
				whole := frameOf(t, example(uint8(r.below(4)), r.text(r.below(9))))
				shard += whole[:r.below(len(whole)+1)]
			default:
				inside := frameOf(t, example(uint8(r.below(4)), r.text(r.below(9))))
				shard += frameOf(t, example(uint8(r.below(4)), inside))
			}
		}
		broken := []byte(shard)
		for k := r.below(3); k > 0; k-- {
			broken[r.below(len(broken))] = byte(r.below(256))
		}
		records, gaps := plainScan(string(broken))
		checkScan(t, "a mixed shard", string(broken), records, gaps)
	}
}

func TestP1EveryShardOfFewBytes(t *testing.T) {
	letters := "\x00\x01\x02\x04\x7f\x80\xd5\xff"
	shards := []string{""}
	for n := 0; n < 5; n++ {
		var longer []string
		for _, s := range shards {
			for i := range len(letters) {
				longer = append(longer, s+letters[i:i+1])
			}
		}
		shards = longer
		for _, s := range shards {
			// Seven bytes are the shortest frame, so there is none in these.
			checkScan(t, "few bytes", s, nil, []api.Gap{{From: 0, To: len(s)}})
		}
	}
}

func TestP2ListsOfScanAreTheCallers(t *testing.T) {
	ab := frameOf(t, example(1, "ab"))
	no := frameOf(t, example(0, ""))
	shards := []string{"", "x", ab, "x" + ab, "x" + ab + "y" + no + "z", ab + no + ab, strings.Repeat("-"+no, 20)}
	for _, shard := range shards {
		records, gaps := plainScan(shard)
		l1, g1, _ := drill.Scan(shard)
		l2, g2, _ := drill.Scan(shard)
		spoilRecords(l1)
		if !slices.Equal(g1, gaps) {
			t.Errorf("P2: the gaps of %x share room with the records", shard)
		}
		spoilGaps(g1)
		if !slices.Equal(l2, records) || !slices.Equal(g2, gaps) {
			t.Errorf("P2: two answers of %x share room", shard)
		}
		checkScan(t, "P2: after writes into the lists", shard, records, gaps)
	}
}

// spoilRecords writes into the whole room of a list, and makes it longer.
func spoilRecords(l []api.Record) {
	all := l[:cap(l)]
	for i := range all {
		all[i] = record(7, 7, example(3, "over"))
	}
	for range 50 {
		l = append(l, record(8, 8, example(2, "more")))
	}
}

func spoilGaps(l []api.Gap) {
	all := l[:cap(l)]
	for i := range all {
		all[i] = api.Gap{From: 7, To: 7}
	}
	for range 50 {
		l = append(l, api.Gap{From: 8, To: 8})
	}
}

func FuzzScan(f *testing.F) {
	f.Add("")
	f.Add("x" + framed("\x01ab") + "yz")
	f.Add(framed("\x03" + framed("\x00")))
	f.Add(strings.Repeat("\xd5", 600))
	f.Add(strings.Repeat("x", 601))
	f.Fuzz(func(t *testing.T, shard string) {
		if len(shard) > api.MaxShard {
			if l, g, err := drill.Scan(shard); len(l) != 0 || len(g) != 0 || err != api.ErrText {
				t.Errorf("P4: Scan of %d bytes = %v, %v, %d", len(shard), l, g, err)
			}
			return
		}
		records, gaps := plainScan(shard)
		checkScan(t, "any bytes", shard, records, gaps)
	})
}
