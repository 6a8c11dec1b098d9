package store

// maxCount is the greatest count that a thing has.
const maxCount uint64 = 1 << 62

// countEnd is where a record's count ends, and its thing begins.
const countEnd = 8

// journalHead is how many bytes the journal puts ahead of a record's own.
const journalHead = 16

// thing is what a half has.
type thing struct {
	half  int
	count uint64
	data  []byte
}

// thingOf is the one that a half has whose journal has these records; nil, if it has none.
func thingOf(half int, records [][]byte) *thing {
	if len(records) == 0 || len(records[0]) < countEnd {
		return nil
	}
	first := records[0]
	t := &thing{half: half, data: first[countEnd:]}
	for i, x := range first[:countEnd] {
		t.count |= uint64(x) << (8 * i)
	}
	if t.count > maxCount {
		return nil
	}
	return t
}

// record is the thing as the journal takes it: its count, the lowest byte first, and its bytes.
func (t *thing) record() []byte {
	b := make([]byte, countEnd+len(t.data))
	for i := range countEnd {
		b[i] = byte(t.count >> (8 * i))
	}
	copy(b[countEnd:], t.data)
	return b
}
