package scan_test

import (
	"bytes"
	"math"
	"slices"
	"strconv"
	"strings"
	"testing"

	"swingbridge/api"
	"swingbridge/scan"
	"swingbridge/table"
)

var kinds = []int{api.Array, api.Hash, api.LRU}

// letters is a map whose keys and values have one byte.
func letters(kind, most int) api.Map {
	return api.Map{Name: "letters", Kind: kind, Key: 1, Value: 1, Max: most}
}

func made(t *testing.T, m api.Map) *table.Table {
	t.Helper()
	x, e := table.New(m)
	if e != api.OK || x == nil {
		t.Fatalf("New(%+v): %v, %v", m, x, e)
	}
	return x
}

func puts(t *testing.T, x *table.Table, key, value string) {
	t.Helper()
	if e := x.Update([]byte(key), []byte(value), api.Any); e != api.OK {
		t.Fatalf("Update(%q, %q): %v", key, value, e)
	}
}

// filled is a table of letters that has the pairs of a text, put one behind the other: "a1 b2" is a with 1, and b with 2.
func filled(t *testing.T, kind, most int, text string) *table.Table {
	t.Helper()
	x := made(t, letters(kind, most))
	for _, f := range strings.Fields(text) {
		puts(t, x, f[:1], f[1:])
	}
	return x
}

// number is the key of an Array's entry.
func number(n int) string {
	return string([]byte{byte(n), byte(n >> 8), byte(n >> 16), byte(n >> 24)})
}

// counted is an Array whose entries have their numbers' lowest bytes.
func counted(t *testing.T, most int) *table.Table {
	t.Helper()
	x := made(t, api.Map{Name: "a", Kind: api.Array, Key: 4, Value: 2, Max: most})
	for n := range most {
		puts(t, x, number(n), number(n)[:2])
	}
	return x
}

// mixed has tables of all kinds, of many sizes, with their entries put in no order.
func mixed(t *testing.T) []*table.Table {
	t.Helper()
	out := []*table.Table{counted(t, 1), counted(t, 7), counted(t, 300)}
	for _, kind := range []int{api.Hash, api.LRU} {
		out = append(out, filled(t, kind, 4, ""), filled(t, kind, 4, "a1"), filled(t, kind, 4, "d1 b2 a3 c4"), filled(t, kind, 9, "z1 \x002 \xff3 \x804 \x7f5 Z6"))
		x := made(t, api.Map{Name: "long", Kind: kind, Key: 64, Value: 256, Max: 100})
		for n := range 100 {
			puts(t, x, strings.Repeat(number(n * 67 % 100 * 11)[:2], 32), strings.Repeat(number(n)[:2], 128))
		}
		out = append(out, x)
		y := made(t, api.Map{Name: "few", Kind: kind, Key: 2, Value: 3, Max: 400})
		for n := range 300 {
			puts(t, y, number(n * 307 % 65536)[:2], number(n)[:3])
		}
		out = append(out, y)
	}
	return out
}

// told is all that a table tells, in its own order.
func told(x *table.Table) []scan.Pair {
	var out []scan.Pair
	for k, v := range x.All() {
		out = append(out, scan.Pair{Key: k, Value: string(v)})
	}
	return out
}

// sorted is what the chapter says of those that are told: by their keys, byte by byte.
func sorted(x *table.Table) []scan.Pair {
	out := told(x)
	slices.SortFunc(out, func(a, b scan.Pair) int { return bytes.Compare([]byte(a.Key), []byte(b.Key)) })
	return out
}

// above is what is left of them behind a key.
func above(all []scan.Pair, after string, first bool) []scan.Pair {
	var out []scan.Pair
	for _, p := range all {
		if first || bytes.Compare([]byte(p.Key), []byte(after)) > 0 {
			out = append(out, p)
		}
	}
	return out
}

// stays holds that a table is what it was: no entry was used, or changed.
func stays(t *testing.T, x *table.Table, was []scan.Pair) {
	t.Helper()
	if now := told(x); !slices.Equal(now, was) {
		t.Fatalf("%q is now %q", was, now)
	}
}

// keysAre asks twice for all keys.
func keysAre(t *testing.T, x *table.Table, want []string) {
	t.Helper()
	all := scan.Keys(x)
	for range 2 {
		if got := slices.Collect(all); !slices.Equal(got, want) {
			t.Fatalf("Keys: %q, want %q", got, want)
		}
	}
}

func nextIs(t *testing.T, x *table.Table, key string, first bool, want []scan.Pair) {
	t.Helper()
	got, is := scan.Next(x, key, first)
	if len(want) == 0 && (got != "" || is) || len(want) > 0 && (got != want[0].Key || !is) {
		t.Fatalf("Next(%q, %v): %q, %v, want the first of %q", key, first, got, is, want)
	}
}

// batchIs asks for a batch; want is all that there is behind the key.
func batchIs(t *testing.T, x *table.Table, after string, first bool, n int, want []scan.Pair) {
	t.Helper()
	got, more := scan.Batch(x, after, first, n)
	most := min(max(n, 0), len(want))
	if !slices.Equal(got, want[:most]) || more != (most < len(want)) {
		t.Fatalf("Batch(%q, %v, %d): %q, %v, want %d of %q", after, first, n, got, more, most, want)
	}
}

func pairs(text string) []scan.Pair {
	var out []scan.Pair
	for _, f := range strings.Fields(text) {
		out = append(out, scan.Pair{Key: f[:1], Value: f[1:]})
	}
	return out
}

func TestK1ExampleOfTheChapter(t *testing.T) {
	for _, kind := range []int{api.Hash, api.LRU} {
		l, more := scan.Batch(filled(t, kind, 3, "c3 a1 b2"), "", true, 2)
		if !slices.Equal(l, pairs("a1 b2")) || !more {
			t.Errorf("%q, %v", l, more)
		}
	}
}

func TestK1KeysRise(t *testing.T) {
	for _, kind := range []int{api.Hash, api.LRU} {
		keysAre(t, filled(t, kind, 4, ""), nil)
		keysAre(t, filled(t, kind, 4, "b1"), []string{"b"})
		keysAre(t, filled(t, kind, 4, "d1 b2 a3 c4"), []string{"a", "b", "c", "d"})
		keysAre(t, filled(t, kind, 4, "d1 b2 a3 c4 b5"), []string{"a", "b", "c", "d"})
		keysAre(t, filled(t, kind, 9, "z1 \x002 \xff3 \x804 \x7f5 Z6 _7"), []string{"\x00", "Z", "_", "z", "\x7f", "\x80", "\xff"})
	}
}

func TestK1KeysByTheFirstByteThatDiffers(t *testing.T) {
	want := []string{"\x00\x00", "\x00\x01", "\x00\xff", "\x01\x00", "aa", "ab", "b\x00", "\x7f\xff", "\x80\x00", "\xc3\xa9", "\xff\x00", "\xff\xff"}
	for _, kind := range []int{api.Hash, api.LRU} {
		x := made(t, api.Map{Name: "m", Kind: kind, Key: 2, Value: 1, Max: 20})
		for i := range want {
			puts(t, x, want[i*5%len(want)], "v")
		}
		keysAre(t, x, want)
	}
}

// An Array's numbers stand in its keys with the lowest byte first: by keys they come in another order.
func TestK1KeysOfAnArray(t *testing.T) {
	keysAre(t, counted(t, 3), []string{number(0), number(1), number(2)})
	keysAre(t, counted(t, 258), append([]string{number(0), number(256), number(1), number(257)}, inOrder(2, 256)...))
	x := counted(t, 1024)
	var want []string
	for low := range 256 {
		for high := range 4 {
			want = append(want, number(low+256*high))
		}
	}
	keysAre(t, x, want)
}

func inOrder(from, behind int) []string {
	var out []string
	for n := from; n < behind; n++ {
		out = append(out, number(n))
	}
	return out
}

func TestK1KeysOfAllTables(t *testing.T) {
	for _, x := range mixed(t) {
		was := told(x)
		var want []string
		for _, p := range sorted(x) {
			want = append(want, p.Key)
		}
		keysAre(t, x, want)
		stays(t, x, was)
	}
}

func TestK1KeysMayBeLeft(t *testing.T) {
	for _, x := range []*table.Table{filled(t, api.Hash, 3, "c1 a2 b3"), filled(t, api.LRU, 3, "c1 a2 b3"), counted(t, 3)} {
		was := told(x)
		for most := range 5 {
			n := 0
			for range scan.Keys(x) {
				if n++; n >= most {
					break
				}
			}
			if want := min(max(most, 1), 3); n != want {
				t.Errorf("%d are told, want %d", n, want)
			}
		}
		stays(t, x, was)
	}
}

// Keys tells those that there are when it is ranged over, whatever is done meanwhile, and it ends.
func TestK1KeysAsTheyAreWhenRangedOver(t *testing.T) {
	for _, kind := range []int{api.Hash, api.LRU} {
		x := filled(t, kind, 3, "c1 b2")
		all := scan.Keys(x)
		puts(t, x, "a", "3")
		got := ""
		for k := range all {
			got += k
			x.Delete([]byte("c"))
			x.Update([]byte{byte('d' + len(got))}, []byte("v"), api.Any)
			if len(got) > 10 {
				break
			}
		}
		if got != "abc" {
			t.Errorf("%q", got)
		}
		for k := range all {
			got += k
		}
		if strings.Contains(got[3:], "c") || len(got) != 6 {
			t.Errorf("ranged over again: %q", got[3:])
		}
	}
}

func TestK1Next(t *testing.T) {
	for _, kind := range []int{api.Hash, api.LRU} {
		x := filled(t, kind, 4, "d1 b2 f3")
		for _, row := range []struct {
			key   string
			first bool
			want  string
		}{
			{"", true, "b"}, {"b", true, "b"}, {"d", true, "b"}, {"f", true, "b"}, {"z", true, "b"},
			{"", false, "b"}, {"a", false, "b"}, {"b", false, "d"}, {"c", false, "d"}, {"d", false, "f"}, {"e", false, "f"},
			{"a\xff", false, "b"}, {"b\x00", false, "d"}, {"bb", false, "d"}, {"d\xff\xff", false, "f"}, {"\x00\x00\x00", false, "b"},
		} {
			if got, is := scan.Next(x, row.key, row.first); got != row.want || !is {
				t.Errorf("Next(%q, %v): %q, %v, want %q", row.key, row.first, got, is, row.want)
			}
		}
		for _, key := range []string{"f", "g", "f\x00", "ff", "\xff", strings.Repeat("z", 300)} {
			if got, is := scan.Next(x, key, false); got != "" || is {
				t.Errorf("Next(%q, false): %q, %v", key, got, is)
			}
		}
	}
}

func TestK1NextOfNone(t *testing.T) {
	for _, kind := range []int{api.Hash, api.LRU} {
		x := filled(t, kind, 4, "")
		for _, key := range []string{"", "a", "aa"} {
			nextIs(t, x, key, true, nil)
			nextIs(t, x, key, false, nil)
		}
	}
}

func TestK1NextGoesThroughAll(t *testing.T) {
	for _, x := range mixed(t) {
		was, all := told(x), sorted(x)
		key, first := "none", true
		for n := range all {
			nextIs(t, x, key, first, all[n:])
			key, first = all[n].Key, false
			nextIs(t, x, key, true, all)
		}
		if len(all) > 0 {
			nextIs(t, x, key, false, nil)
		}
		stays(t, x, was)
	}
}

// What is there when Next is asked is what counts, be the key still there or not.
func TestK1NextOfWhatChanges(t *testing.T) {
	for _, kind := range []int{api.Hash, api.LRU} {
		x := filled(t, kind, 4, "a1 c2")
		nextIs(t, x, "a", false, pairs("c2"))
		puts(t, x, "b", "3")
		nextIs(t, x, "a", false, pairs("b3"))
		x.Delete([]byte("a"))
		nextIs(t, x, "a", false, pairs("b3"))
		nextIs(t, x, "a", true, pairs("b3"))
		x.Delete([]byte("b"))
		x.Delete([]byte("c"))
		nextIs(t, x, "a", false, nil)
	}
}

// somePlaces are keys that a table of letters or of numbers has, and some beside, above and below these.
func somePlaces(all []scan.Pair) []string {
	out := []string{"", "\x00", "a", "a\x00", "ab", "\x80", "\xff", strings.Repeat("\xff", 70)}
	for n, p := range all {
		if n < 6 || n > len(all)-3 || n%97 == 0 {
			out = append(out, p.Key, p.Key+"\x00", p.Key[:len(p.Key)-1])
		}
	}
	return out
}

func TestK1Batch(t *testing.T) {
	sizes := []int{math.MinInt, math.MinInt32, -2, -1, 0, 1, 2, 3, 4, 5, 99, 100, 299, 300, 301, 1 << 32, math.MaxInt}
	for _, x := range mixed(t) {
		was, all := told(x), sorted(x)
		for _, after := range somePlaces(all) {
			for _, first := range []bool{true, false} {
				for _, n := range sizes {
					batchIs(t, x, after, first, n, above(all, after, first))
				}
			}
		}
		stays(t, x, was)
	}
}

func TestK1BatchOfNone(t *testing.T) {
	for _, kind := range []int{api.Hash, api.LRU} {
		x := filled(t, kind, 4, "a1 b2")
		for _, n := range []int{math.MinInt, -1, 0} {
			for _, row := range []struct {
				after string
				first bool
				more  bool
			}{{"", true, true}, {"b", true, true}, {"", false, true}, {"a", false, true}, {"b", false, false}, {"c", false, false}} {
				if l, more := scan.Batch(x, row.after, row.first, n); len(l) != 0 || more != row.more {
					t.Errorf("Batch(%q, %v, %d): %q, %v", row.after, row.first, n, l, more)
				}
			}
			if l, more := scan.Batch(filled(t, kind, 4, ""), "", true, n); len(l) != 0 || more {
				t.Errorf("of an empty one: %q, %v", l, more)
			}
		}
	}
}

func TestK1BatchTellsValuesAsTheyAre(t *testing.T) {
	for _, kind := range []int{api.Hash, api.LRU} {
		x := filled(t, kind, 4, "c1 a2 b3")
		for k, v := range x.All() {
			if k == "a" {
				v[0] = '9'
			}
		}
		got, _ := scan.Batch(x, "", true, 2)
		puts(t, x, "b", "8")
		for _, v := range x.All() {
			v[0] = 'z'
		}
		if !slices.Equal(got, pairs("a9 b3")) {
			t.Errorf("%q", got)
		}
		batchIs(t, x, "", true, 9, pairs("az bz cz"))
		got[0] = scan.Pair{Key: "y", Value: "y"}
		batchIs(t, x, "", true, 9, pairs("az bz cz"))
	}
}

// Batch by batch all entries are told once, if nothing changes.
func TestK1BatchByBatchAllAreToldOnce(t *testing.T) {
	for _, x := range mixed(t) {
		was, all := told(x), sorted(x)
		for _, n := range []int{1, 2, 3, 64, 99, 100, 299, 300, 301} {
			var got []scan.Pair
			l, more := scan.Batch(x, "z", true, n)
			for got = append(got, l...); more; got = append(got, l...) {
				if len(l) != n || len(got) >= len(all) {
					t.Fatalf("by %d: a batch of %d, %d in all, and more behind these", n, len(l), len(got))
				}
				l, more = scan.Batch(x, l[n-1].Key, false, n)
			}
			if !slices.Equal(got, all) {
				t.Fatalf("by %d: %d entries, want %d", n, len(got), len(all))
			}
		}
		stays(t, x, was)
	}
}

// An LRU's next one to go is the same, whatever was asked of it.
func TestK1NoneIsUsed(t *testing.T) {
	for name, do := range map[string]func(x *table.Table){
		"Keys":     func(x *table.Table) { keysAre(t, x, []string{"a", "b", "c"}) },
		"Next":     func(x *table.Table) { scan.Next(x, "", true); scan.Next(x, "a", false); scan.Next(x, "b", false) },
		"Batch":    func(x *table.Table) { scan.Batch(x, "", true, 3); scan.Batch(x, "a", false, 1) },
		"Snapshot": func(x *table.Table) { scan.Snapshot(x) },
	} {
		x := filled(t, api.LRU, 3, "b1 c2 a3")
		do(x)
		stays(t, x, pairs("b1 c2 a3"))
		puts(t, x, "d", "4")
		if stays(t, x, pairs("c2 a3 d4")); t.Failed() {
			t.Errorf("behind %s", name)
		}
	}
}

// All sets of five keys, with each place on, between and beside them, and batches of each size.
func TestK1AllSmallTables(t *testing.T) {
	const names = "acegi"
	for _, kind := range []int{api.Hash, api.LRU} {
		for set := range 1 << len(names) {
			x := made(t, letters(kind, len(names)))
			for i := len(names) - 1; i >= 0; i-- {
				if set>>i&1 == 1 {
					puts(t, x, names[i:i+1], strconv.Itoa(i))
				}
			}
			all := sorted(x)
			for after := '`'; after <= 'j'; after++ {
				for _, first := range []bool{true, false} {
					want := above(all, string(after), first)
					nextIs(t, x, string(after), first, want)
					for n := -1; n <= len(names)+1; n++ {
						batchIs(t, x, string(after), first, n, want)
					}
				}
			}
		}
	}
}

// No table, or one that table did not make, has no entries (R2).
func TestK1NoTable(t *testing.T) {
	for _, x := range []*table.Table{nil, {}} {
		keysAre(t, x, nil)
		for _, first := range []bool{true, false} {
			nextIs(t, x, "a", first, nil)
			for _, n := range []int{-1, 0, 1, math.MaxInt} {
				batchIs(t, x, "a", first, n, nil)
			}
		}
		if b := scan.Snapshot(x); len(b) != 0 {
			t.Errorf("Snapshot: %q", b)
		}
	}
}

func snapshotIs(t *testing.T, x *table.Table, want string) {
	t.Helper()
	for range 2 {
		if got := string(scan.Snapshot(x)); got != want {
			t.Fatalf("Snapshot: %q, want %q", got, want)
		}
	}
}

// row is the bytes of pairs, all behind one another.
func row(l []scan.Pair) string {
	var out strings.Builder
	for _, p := range l {
		out.WriteString(p.Key + p.Value)
	}
	return out.String()
}

func TestK2SnapshotInTheOrderOfAll(t *testing.T) {
	snapshotIs(t, filled(t, api.Hash, 4, "d1 b2 a3 c4"), "a3b2c4d1")
	snapshotIs(t, filled(t, api.LRU, 4, "d1 b2 a3 c4"), "d1b2a3c4")
	snapshotIs(t, filled(t, api.LRU, 3, "d1 b2 a3 c4 b5"), "a3c4b5")
	snapshotIs(t, filled(t, api.Hash, 4, ""), "")
	snapshotIs(t, filled(t, api.LRU, 4, ""), "")
	snapshotIs(t, counted(t, 2), "\x00\x00\x00\x00\x00\x00\x01\x00\x00\x00\x01\x00")
	for _, x := range mixed(t) {
		was := told(x)
		snapshotIs(t, x, row(was))
		stays(t, x, was)
	}
}

func TestK2SnapshotOfLongKeysAndValues(t *testing.T) {
	for _, kind := range []int{api.Hash, api.LRU} {
		x := made(t, api.Map{Name: "m", Kind: kind, Key: 3, Value: 5, Max: 4})
		puts(t, x, "abc", "first")
		puts(t, x, "bcd", "other")
		snapshotIs(t, x, "abcfirstbcdother")
	}
}

func TestK2SnapshotIsTheCallers(t *testing.T) {
	for _, kind := range []int{api.Hash, api.LRU} {
		x := filled(t, kind, 4, "a1 b2")
		b, other := scan.Snapshot(x), scan.Snapshot(x)
		copy(b, "zzzz")
		if string(other) != "a1b2" {
			t.Errorf("%q", other)
		}
		snapshotIs(t, x, "a1b2")
		for _, v := range x.All() {
			v[0] = '9'
		}
		if string(other) != "a1b2" {
			t.Errorf("%q", other)
		}
		snapshotIs(t, x, "a9b9")
	}
}

// restores holds what Restore makes of some bytes: a table of the map with that Snapshot, or none and ErrForm.
func restores(t *testing.T, m api.Map, text string, want bool) *table.Table {
	t.Helper()
	b := []byte(text)
	x, e := scan.Restore(m, b)
	if string(b) != text {
		t.Fatalf("Restore(%+v, %q) has written over it: %q", m, text, b)
	}
	if !want {
		if x != nil || e != api.ErrForm {
			t.Fatalf("Restore(%+v, %q): %v, %v", m, text, x, e)
		}
		return nil
	}
	if x == nil || e != api.OK {
		t.Fatalf("Restore(%+v, %q): %v, %v", m, text, x, e)
	}
	if x.Map() != m || string(scan.Snapshot(x)) != text {
		t.Fatalf("Restore(%+v, %q): a table of %+v with %q", m, text, x.Map(), scan.Snapshot(x))
	}
	return x
}

func TestK2WhatIsRestoredIsWhatWas(t *testing.T) {
	for _, x := range mixed(t) {
		y := restores(t, x.Map(), string(scan.Snapshot(x)), true)
		if !slices.Equal(told(y), told(x)) || y.Len() != x.Len() {
			t.Errorf("%+v: not what was", x.Map())
		}
	}
}

// A table that was restored goes on as the one that was.
func TestK2WhatIsRestoredGoesOn(t *testing.T) {
	x := restores(t, letters(api.LRU, 3), "b1a2c3", true)
	puts(t, x, "d", "4")
	stays(t, x, pairs("a2 c3 d4"))
	x.Lookup([]byte("a"))
	puts(t, x, "e", "5")
	stays(t, x, pairs("d4 a2 e5"))
	x = restores(t, letters(api.Hash, 3), "a1b2", true)
	puts(t, x, "c", "3")
	if e := x.Update([]byte("d"), []byte("4"), api.Any); e != api.ErrFull {
		t.Errorf("%v", e)
	}
	if e := x.Delete([]byte("a")); e != api.OK {
		t.Errorf("%v", e)
	}
	stays(t, x, pairs("b2 c3"))
	m := api.Map{Name: "a", Kind: api.Array, Key: 4, Value: 1, Max: 2}
	x = restores(t, m, number(0)+"a"+number(1)+"b", true)
	puts(t, x, number(1), "c")
	if e := x.Update([]byte(number(2)), []byte("d"), api.Any); e != api.ErrNone {
		t.Errorf("%v", e)
	}
	snapshotIs(t, x, number(0)+"a"+number(1)+"c")
}

func TestK2RestoreOfWrongMaps(t *testing.T) {
	for _, kind := range kinds {
		good := api.Map{Name: "m", Kind: kind, Key: 4, Value: 1, Max: 1}
		text := number(0) + "v"
		restores(t, good, text, true)
		for _, change := range []func(m *api.Map){
			func(m *api.Map) { *m = api.Map{} },
			func(m *api.Map) { m.Name = "" },
			func(m *api.Map) { m.Name = "a b" },
			func(m *api.Map) { m.Name = strings.Repeat("a", 17) },
			func(m *api.Map) { m.Kind = 0 },
			func(m *api.Map) { m.Kind = 4 },
			func(m *api.Map) { m.Key = 0 },
			func(m *api.Map) { m.Key = -1 },
			func(m *api.Map) { m.Key = 65 },
			func(m *api.Map) { m.Key = math.MaxInt },
			func(m *api.Map) { m.Value = 0 },
			func(m *api.Map) { m.Value = -4 },
			func(m *api.Map) { m.Value = 257 },
			func(m *api.Map) { m.Value = math.MaxInt },
			func(m *api.Map) { m.Max = 0 },
			func(m *api.Map) { m.Max = math.MinInt },
			func(m *api.Map) { m.Max = 1025 },
		} {
			m := good
			change(&m)
			for _, b := range []string{"", text, "v", text + text} {
				if x, e := scan.Restore(m, []byte(b)); x != nil || e != api.ErrArg {
					t.Errorf("Restore(%+v, %q): %v, %v", m, b, x, e)
				}
			}
		}
	}
	m := api.Map{Name: "m", Kind: api.Array, Key: 3, Value: 2, Max: 1}
	if x, e := scan.Restore(m, []byte("\x00\x00\x00vv")); x != nil || e != api.ErrArg {
		t.Errorf("an Array with keys of three: %v, %v", x, e)
	}
}

func TestK2RestoreOfHashes(t *testing.T) {
	m := letters(api.Hash, 3)
	for _, good := range []string{"", "a1", "a1b2", "a1b2c3", "\x001a1\xff1", "\x7f1\x801"} {
		restores(t, m, good, true)
	}
	for _, bad := range []string{"a", "a1b", "b2a1", "a1a1", "a1a2", "a1c3b2", "c3a1b2", "a1b2c3d4", "a1b2c3c3", "a1b2c3d", "\x801\x7f1"} {
		restores(t, m, bad, false)
	}
}

func TestK2RestoreOfLRUs(t *testing.T) {
	m := letters(api.LRU, 3)
	for _, good := range []string{"", "a1", "a1b2", "b2a1", "c3a1b2", "a1c3b2", "\xff1\x001"} {
		restores(t, m, good, true)
	}
	for _, bad := range []string{"a", "a1b", "a1a1", "a1a2", "a1b2a1", "a1b2a3", "b2a1a1", "a1b2c3d4", "a1b2c3a1", "a1b2c3d", "d4a1b2c3"} {
		restores(t, m, bad, false)
	}
}

func TestK2RestoreOfArrays(t *testing.T) {
	m := api.Map{Name: "a", Kind: api.Array, Key: 4, Value: 1, Max: 2}
	zero, one, two := number(0), number(1), number(2)
	restores(t, m, zero+"\x00"+one+"\x00", true)
	restores(t, m, zero+"a"+one+"b", true)
	for _, bad := range []string{
		"", "a", zero, zero + "a", one + "b", zero + "a" + one, one + "b" + zero + "a", zero + "a" + zero + "a", zero + "a" + two + "b", zero + "a" + one + "b" + two + "c",
		zero + "a" + one + "b" + "c", zero + "a" + one + "b" + one + "b", one + "b" + one + "b", zero + "a" + number(1<<24) + "b", zero + "a" + number(257) + "b", zero + "a" + number(-1) + "b",
	} {
		restores(t, m, bad, false)
	}
}

// Anything but a Snapshot's own length is none.
func TestK2RestoreOfOtherLengths(t *testing.T) {
	for _, x := range mixed(t) {
		if x.Len() == 0 {
			continue
		}
		m, b := x.Map(), string(scan.Snapshot(x))
		size := m.Key + m.Value
		for less := 1; less < size; less++ {
			restores(t, m, b[:len(b)-less], false)
			restores(t, m, b+b[:less], false)
		}
		restores(t, m, b[:len(b)-size], m.Kind != api.Array)
		restores(t, m, b[size:], m.Kind != api.Array)
		restores(t, m, b+b[:size], false)
		restores(t, m, b+b, false)
	}
}

func TestK2RestoreAtTheGreatestMax(t *testing.T) {
	for _, kind := range kinds {
		m := api.Map{Name: "m", Kind: kind, Key: 4, Value: 256, Max: 1024}
		var b strings.Builder
		for n := range 1024 {
			key := number(n)
			if kind != api.Array {
				key = string([]byte{'k', byte(n >> 8), byte(n), 'k'})
			}
			b.WriteString(key + strings.Repeat(number(n)[:2], 128))
		}
		restores(t, m, b.String(), true)
		restores(t, m, b.String()+"zzzz"+strings.Repeat("v", 256), false)
		m.Max = 1023
		restores(t, m, b.String(), false)
	}
}

func TestK2RestoreOfVeryManyBytes(t *testing.T) {
	text := strings.Repeat("a1b2", 1<<20)
	for _, kind := range []int{api.Hash, api.LRU} {
		restores(t, letters(kind, 2), text, false)
	}
}

// What Restore was handed may be written over; what it answered has nothing to do with other tables (R1, R3).
func TestK2RestoredTablesAreApart(t *testing.T) {
	for _, kind := range []int{api.Hash, api.LRU} {
		b := []byte("a1b2")
		x, e := scan.Restore(letters(kind, 3), b)
		y, f := scan.Restore(letters(kind, 3), b)
		if e != api.OK || f != api.OK {
			t.Fatalf("%v, %v", e, f)
		}
		copy(b, "zzzz")
		snapshotIs(t, x, "a1b2")
		for _, v := range x.All() {
			v[0] = '9'
		}
		puts(t, x, "c", "3")
		snapshotIs(t, x, "a9b9c3")
		snapshotIs(t, y, "a1b2")
		if string(b) != "zzzz" {
			t.Errorf("%q", b)
		}
	}
}

// right tells, by the chapter's wording, whether some bytes are the Snapshot of a table of a map.
func right(m api.Map, b string) bool {
	size := m.Key + m.Value
	if len(b)%size != 0 {
		return false
	}
	var keys []string
	for ; b != ""; b = b[size:] {
		keys = append(keys, b[:m.Key])
	}
	if m.Kind == api.Array {
		return slices.Equal(keys, inOrder(0, m.Max))
	}
	alone := slices.Clone(keys)
	slices.Sort(alone)
	if m.Kind == api.Hash && !slices.Equal(keys, alone) {
		return false
	}
	return len(keys) <= m.Max && len(slices.Compact(alone)) == len(keys)
}

// All rows of a few bytes, of which some are Snapshots.
func TestK2AllShortRows(t *testing.T) {
	for _, m := range []api.Map{
		letters(api.Hash, 1), letters(api.Hash, 2), letters(api.LRU, 1), letters(api.LRU, 2), letters(api.LRU, 3),
		{Name: "h", Kind: api.Hash, Key: 2, Value: 1, Max: 2}, {Name: "l", Kind: api.LRU, Key: 1, Value: 2, Max: 2},
	} {
		rows := []string{""}
		for range 9 {
			for _, r := range rows {
				restores(t, m, r, right(m, r))
			}
			rows = longer(rows)
		}
	}
	for _, most := range []int{1, 2} {
		m := api.Map{Name: "a", Kind: api.Array, Key: 4, Value: 1, Max: most}
		var rows []string
		for _, n := range []int{-1, 0, 1, 2, 256} {
			rows = append(rows, number(n)+"a")
		}
		all := append([]string{""}, rows...)
		for range 3 {
			for _, r := range all {
				restores(t, m, r, right(m, r))
			}
			var next []string
			for _, r := range all {
				for _, s := range rows {
					next = append(next, r+s)
				}
			}
			all = next
		}
	}
}

// longer is each row with each of three bytes behind it.
func longer(rows []string) []string {
	var out []string
	for _, r := range rows {
		out = append(out, r+"a", r+"b", r+"\xff")
	}
	return out
}
