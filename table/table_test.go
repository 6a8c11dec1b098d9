package table_test

import (
	"bytes"
	"cmp"
	"math"
	"slices"
	"strconv"
	"strings"
	"testing"

	"swingbridge/api"
	"swingbridge/table"
)

var kinds = []int{api.Array, api.Hash, api.LRU}

// some is a map that is right, of keys and values of four bytes.
func some(kind int) api.Map {
	return api.Map{Name: "some", Kind: kind, Key: 4, Value: 4, Max: 3}
}

// letters is a map whose keys and values have one byte.
func letters(kind, most int) api.Map {
	return api.Map{Name: "letters", Kind: kind, Key: 1, Value: 1, Max: most}
}

func made(t *testing.T, m api.Map) *table.Table {
	t.Helper()
	x, e := table.New(m)
	if e != api.OK || x == nil {
		t.Fatalf("New(%+v): %v, %v", m, x, e)
	}
	return x
}

// filled is a table of letters that has the pairs of a text, set one behind the other: "a1 b2" is a with 1, and b with 2.
func filled(t *testing.T, kind, most int, text string) *table.Table {
	t.Helper()
	x := made(t, letters(kind, most))
	for _, f := range strings.Fields(text) {
		updates(t, x, f[:1], f[1:], api.Any, api.OK)
	}
	return x
}

func updates(t *testing.T, x *table.Table, key, value string, flags int, want api.Errno) {
	t.Helper()
	if e := x.Update([]byte(key), []byte(value), flags); e != want {
		t.Errorf("Update(%q, %q, %d): %v, want %v", key, value, flags, e, want)
	}
}

func deletes(t *testing.T, x *table.Table, key string, want api.Errno) {
	t.Helper()
	if e := x.Delete([]byte(key)); e != want {
		t.Errorf("Delete(%q): %v, want %v", key, e, want)
	}
}

// finds looks a key up; want is the value, or nothing, if there must be none.
func finds(t *testing.T, x *table.Table, key, want string) *table.Entry {
	t.Helper()
	e, is := x.Lookup([]byte(key))
	if want == "" {
		if e != nil || is {
			t.Fatalf("Lookup(%q): %v, %v, want none", key, e, is)
		}
		return nil
	}
	if e == nil || !is {
		t.Fatalf("Lookup(%q): %v, %v, want %q", key, e, is, want)
	}
	if e.Key != key || string(e.Data) != want {
		t.Fatalf("Lookup(%q): %q with %q, want %q", key, e.Key, e.Data, want)
	}
	return e
}

func told(x *table.Table) string {
	var l []string
	for k, v := range x.All() {
		l = append(l, k+string(v))
	}
	return strings.Join(l, " ")
}

// has asks twice for all that is told without a use.
func has(t *testing.T, x *table.Table, want string) {
	t.Helper()
	for range 2 {
		if got := told(x); got != want {
			t.Fatalf("All: %q, want %q", got, want)
		}
		if n := x.Len(); n != len(strings.Fields(want)) {
			t.Fatalf("Len: %d of %q", n, want)
		}
	}
}

// number is the key of an Array's entry.
func number(n int) string {
	return string([]byte{byte(n), byte(n >> 8), byte(n >> 16), byte(n >> 24)})
}

func TestJ1RightMaps(t *testing.T) {
	for _, kind := range kinds {
		for _, value := range []int{1, 2, 255, 256} {
			for _, most := range []int{1, 2, 1023, 1024} {
				keys := []int{1, 2, 3, 4, 5, 63, 64}
				if kind == api.Array {
					keys = []int{4}
				}
				for _, key := range keys {
					right(t, api.Map{Name: "m", Kind: kind, Key: key, Value: value, Max: most}, true)
				}
			}
		}
	}
}

// right holds what Right tells of a map, and New with it.
func right(t *testing.T, m api.Map, want bool) {
	t.Helper()
	if table.Right(m) != want {
		t.Errorf("Right(%+v) is not %v", m, want)
	}
	x, e := table.New(m)
	if want && (x == nil || e != api.OK) || !want && (x != nil || e != api.ErrArg) {
		t.Fatalf("New(%+v): %v, %v", m, x, e)
	}
	if want && x.Map() != m {
		t.Errorf("Map: %+v, want %+v", x.Map(), m)
	}
}

func TestJ1WrongMaps(t *testing.T) {
	right(t, api.Map{}, false)
	for _, kind := range kinds {
		for name, change := range map[string]func(m *api.Map, n int){
			"key":   func(m *api.Map, n int) { m.Key = n },
			"value": func(m *api.Map, n int) { m.Value = n },
			"max":   func(m *api.Map, n int) { m.Max = n },
		} {
			above := map[string]int{"key": 65, "value": 257, "max": 1025}[name]
			for _, n := range []int{math.MinInt, math.MinInt32, -4, -1, 0, above, above + 1, 1 << 32, 1<<32 + 4, math.MaxInt} {
				m := some(kind)
				change(&m, n)
				right(t, m, false)
			}
		}
	}
}

func TestJ1ArrayHasKeysOfFour(t *testing.T) {
	for key := -1; key <= 66; key++ {
		m := some(api.Array)
		m.Key = key
		right(t, m, key == 4)
	}
}

func TestJ1Kinds(t *testing.T) {
	for _, kind := range []int{math.MinInt, -3, -2, -1, 0, 4, 5, 257, 1<<32 + 1, math.MaxInt} {
		right(t, some(kind), false)
	}
	for _, kind := range kinds {
		right(t, some(kind), true)
	}
}

func TestJ1Names(t *testing.T) {
	name := func(s string, want bool) {
		t.Helper()
		for _, kind := range kinds {
			m := some(kind)
			m.Name = s
			right(t, m, want)
		}
	}
	const known = "ABCDEFGHIJKLMNOPQRSTUVWXYZabcdefghijklmnopqrstuvwxyz0123456789_"
	for b := range 256 {
		one, is := string([]byte{byte(b)}), strings.IndexByte(known, byte(b)) >= 0
		name(one, is)
		name("a"+one, is)
		name("a"+one+"b", is)
		name(strings.Repeat("z", 15)+one, is)
		name(one+strings.Repeat("0", 15), is)
	}
	name("", false)
	for n := range 40 {
		name(strings.Repeat("_", n), 1 <= n && n <= 16)
	}
	for _, s := range []string{"é", "Å", "٣", "a b", "a-b", "a.b", "\x00", "日本"} {
		name(s, false)
	}
}

func TestJ1NewHashAndLRUHaveNoEntries(t *testing.T) {
	for _, kind := range []int{api.Hash, api.LRU} {
		x := made(t, some(kind))
		has(t, x, "")
		for _, key := range []string{"", "a", "\x00\x00\x00\x00", "abcd", "abcde"} {
			finds(t, x, key, "")
		}
	}
}

func TestJ1ArrayHasItsEntries(t *testing.T) {
	for _, most := range []int{1, 2, 3, 255, 256, 257, 300, 1024} {
		for _, value := range []int{1, 3, 256} {
			x := made(t, api.Map{Name: "a", Kind: api.Array, Key: 4, Value: value, Max: most})
			zero := strings.Repeat("\x00", value)
			n := 0
			for k, v := range x.All() {
				if k != number(n) || string(v) != zero {
					t.Fatalf("entry %d of %d: %q with %q", n, most, k, v)
				}
				n++
			}
			if n != most || x.Len() != most {
				t.Fatalf("All tells %d, Len %d, want %d", n, x.Len(), most)
			}
			finds(t, x, number(0), zero)
			finds(t, x, number(most-1), zero)
			for _, k := range []int{most, most + 1, 1024, 1 << 16, 1 << 24, 1<<31 - 1, 1 << 31, 1<<32 - 1, -most} {
				finds(t, x, number(k), "")
				updates(t, x, number(k), zero, api.Any, api.ErrNone)
			}
		}
	}
}

func TestJ1ArrayIsToldByNumbers(t *testing.T) {
	x := made(t, api.Map{Name: "a", Kind: api.Array, Key: 4, Value: 2, Max: 600})
	for n := 599; n >= 0; n-- {
		updates(t, x, number(n), number(n * 7)[:2], api.Any, api.OK)
	}
	n := 0
	for k, v := range x.All() {
		if k != number(n) || string(v) != number(n * 7)[:2] {
			t.Fatalf("%d: %q with %q", n, k, v)
		}
		finds(t, x, k, string(v))
		n++
	}
	if n != 600 || x.Len() != 600 {
		t.Errorf("%d are told, Len %d", n, x.Len())
	}
}

func TestJ1HashIsToldByKeys(t *testing.T) {
	has(t, filled(t, api.Hash, 9, "c1 a2 b3 Z4 _5 06"), "06 Z4 _5 a2 b3 c1")
	keys := []string{"\x00\x00", "\x00\x01", "\x00\xff", "\x01\x00", "aa", "ab", "\x7f\xff", "\x80\x00", "\xc3\xa9", "\xff\x00", "\xff\xff"}
	for turn := range keys {
		x := made(t, api.Map{Name: "h", Kind: api.Hash, Key: 2, Value: 1, Max: 20})
		for i := range keys {
			updates(t, x, keys[(turn+i*3)%len(keys)], "v", api.Any, api.OK)
		}
		var got []string
		for k := range x.All() {
			got = append(got, k)
		}
		if !slices.Equal(got, keys) {
			t.Fatalf("%q", got)
		}
	}
}

func TestJ1LRUIsToldByUse(t *testing.T) {
	x := filled(t, api.LRU, 4, "c1 a2 d3 b4")
	has(t, x, "c1 a2 d3 b4")
	finds(t, x, "a", "2")
	has(t, x, "c1 d3 b4 a2")
	updates(t, x, "c", "5", api.Exist, api.OK)
	has(t, x, "d3 b4 a2 c5")
	deletes(t, x, "b", api.OK)
	has(t, x, "d3 a2 c5")
	updates(t, x, "b", "6", api.NoExist, api.OK)
	has(t, x, "d3 a2 c5 b6")
}

func TestJ1AllTellsTheDataItself(t *testing.T) {
	for _, x := range []*table.Table{
		filled(t, api.Hash, 3, "a1 b2 c3"), filled(t, api.LRU, 3, "a1 b2 c3"),
	} {
		for k, v := range x.All() {
			if k == "b" {
				v[0] = '9'
			}
		}
		has(t, x, "a1 b9 c3")
		finds(t, x, "b", "9")
	}
	x := made(t, some(api.Array))
	for k, v := range x.All() {
		copy(v, "v"+k[:1])
	}
	for n := range 3 {
		finds(t, x, number(n), "v"+string(rune(n))+"\x00\x00")
	}
}

func TestJ1AllStopsWhereItIsLeft(t *testing.T) {
	for _, x := range []*table.Table{
		filled(t, api.Hash, 3, "a1 b2 c3"), filled(t, api.LRU, 3, "a1 b2 c3"), made(t, some(api.Array)),
	} {
		for most := range 5 {
			n := 0
			for range x.All() {
				if n++; n >= most {
					break
				}
			}
			if want := min(max(most, 1), 3); n != want {
				t.Errorf("%d are told, want %d", n, want)
			}
		}
	}
}

func TestJ1AllOfOneCallIsRangedOverAgain(t *testing.T) {
	for _, kind := range []int{api.Hash, api.LRU} {
		x := filled(t, kind, 3, "a1 b2")
		all := x.All()
		updates(t, x, "a", "3", api.Any, api.OK)
		updates(t, x, "c", "4", api.Any, api.OK)
		want := map[int]string{api.Hash: "a3 b2 c4 ", api.LRU: "b2 a3 c4 "}[kind]
		for range 2 {
			got := ""
			for k, v := range all {
				got += k + string(v) + " "
			}
			if got != want {
				t.Errorf("%q, want %q", got, want)
			}
		}
	}
}

// Who ranges over a table may change it: the ranging ends, and tells those that there were.
func TestJ1AllEndsWhateverIsDoneMeanwhile(t *testing.T) {
	for _, kind := range []int{api.Hash, api.LRU} {
		for name, do := range map[string]func(x *table.Table, k string, n int){
			"Lookup": func(x *table.Table, k string, n int) { x.Lookup([]byte(k)) },
			"Delete": func(x *table.Table, k string, n int) {
				for _, k := range []string{"a", "b", "c"} {
					x.Delete([]byte(k))
				}
			},
			"Update": func(x *table.Table, k string, n int) { x.Update([]byte{byte('d' + n)}, []byte("v"), api.Any) },
		} {
			x, got := filled(t, kind, 3, "a1 b2 c3"), ""
			for k, v := range x.All() {
				got += k + string(v) + " "
				if do(x, k, len(got)); len(got) > 100 {
					break
				}
			}
			if got != "a1 b2 c3 " {
				t.Errorf("%s in a table of kind %d: %q", name, kind, got)
			}
		}
	}
}

func TestJ2ExampleOfTheChapter(t *testing.T) {
	x := filled(t, api.LRU, 2, "a1 b2")
	finds(t, x, "a", "1")
	updates(t, x, "c", "3", api.Any, api.OK)
	has(t, x, "a1 c3")
	finds(t, x, "b", "")
}

func TestJ2LookupUsesOfAnLRUAlone(t *testing.T) {
	x := filled(t, api.Hash, 3, "a1 b2 c3")
	finds(t, x, "a", "1")
	has(t, x, "a1 b2 c3")
	x = filled(t, api.LRU, 3, "a1 b2 c3")
	for _, row := range []struct{ key, value, want string }{
		{"a", "1", "b2 c3 a1"}, {"c", "3", "b2 a1 c3"}, {"c", "3", "b2 a1 c3"}, {"d", "", "b2 a1 c3"}, {"", "", "b2 a1 c3"}, {"bb", "", "b2 a1 c3"},
	} {
		finds(t, x, row.key, row.value)
		has(t, x, row.want)
	}
}

func TestJ2LookupOfWrongLengths(t *testing.T) {
	for _, kind := range kinds {
		x := made(t, some(kind))
		updates(t, x, "\x00\x00\x00\x00", "data", api.Any, api.OK)
		for _, key := range []string{"", "\x00", "\x00\x00\x00", "\x00\x00\x00\x00\x00", strings.Repeat("\x00", 8)} {
			finds(t, x, key, "")
		}
		if e, is := x.Lookup(nil); e != nil || is {
			t.Errorf("Lookup(nil): %v, %v", e, is)
		}
		finds(t, x, "\x00\x00\x00\x00", "data")
	}
}

func TestJ2Flags(t *testing.T) {
	for _, kind := range []int{api.Hash, api.LRU} {
		x := made(t, letters(kind, 3))
		updates(t, x, "a", "1", api.Exist, api.ErrNone)
		has(t, x, "")
		updates(t, x, "a", "2", api.NoExist, api.OK)
		has(t, x, "a2")
		updates(t, x, "a", "3", api.NoExist, api.ErrExist)
		has(t, x, "a2")
		updates(t, x, "a", "4", api.Exist, api.OK)
		has(t, x, "a4")
		updates(t, x, "a", "5", api.Any, api.OK)
		has(t, x, "a5")
		updates(t, x, "b", "6", api.Any, api.OK)
		has(t, x, "a5 b6")
	}
}

func TestJ2FlagsOfAnArray(t *testing.T) {
	x := made(t, some(api.Array))
	for _, row := range []struct {
		n, flags int
		want     api.Errno
	}{
		{0, api.Any, api.OK}, {2, api.Exist, api.OK}, {1, api.NoExist, api.ErrExist}, {2, api.NoExist, api.ErrExist},
		{3, api.Any, api.ErrNone}, {3, api.NoExist, api.ErrNone}, {3, api.Exist, api.ErrNone}, {-1, api.Any, api.ErrNone}, {-1, api.NoExist, api.ErrNone},
	} {
		updates(t, x, number(row.n), "data", row.flags, row.want)
	}
	finds(t, x, number(0), "data")
	finds(t, x, number(1), "\x00\x00\x00\x00")
	finds(t, x, number(2), "data")
	if x.Len() != 3 {
		t.Errorf("Len: %d", x.Len())
	}
}

func TestJ2UpdateOfWrongArguments(t *testing.T) {
	for _, kind := range kinds {
		x := made(t, some(kind))
		if kind != api.Array {
			updates(t, x, number(0), "\x00\x00\x00\x00", api.Any, api.OK)
			updates(t, x, number(1), "\x00\x00\x00\x00", api.Any, api.OK)
			updates(t, x, number(2), "\x00\x00\x00\x00", api.Any, api.OK)
		}
		before := told(x)
		for _, key := range []string{number(0), number(1), number(3)} { // some that there are, and one that there is not
			for _, flags := range []int{api.Any, api.NoExist, api.Exist} {
				for _, bad := range []string{"", "abc", "abcde", "abcdefgh"} {
					updates(t, x, bad, "data", flags, api.ErrArg)
					updates(t, x, key, bad, flags, api.ErrArg)
					updates(t, x, bad, bad, flags, api.ErrArg)
				}
			}
			for _, flags := range []int{math.MinInt, -2, -1, 3, 4, 5, 256, 1 << 32, 1<<32 + 1, math.MaxInt} {
				updates(t, x, key, "data", flags, api.ErrArg)
			}
		}
		if e := x.Update(nil, nil, 0); e != api.ErrArg {
			t.Errorf("Update(nil, nil): %v", e)
		}
		if got := told(x); got != before {
			t.Errorf("%q is now %q", before, got)
		}
	}
}

func TestJ2KeyAndValueHaveLengthsOfTheirOwn(t *testing.T) {
	for _, kind := range []int{api.Hash, api.LRU} {
		for _, size := range [][2]int{{1, 256}, {64, 1}, {64, 256}, {2, 3}} {
			x := made(t, api.Map{Name: "m", Kind: kind, Key: size[0], Value: size[1], Max: 2})
			key, value := strings.Repeat("k", size[0]), strings.Repeat("v", size[1])
			updates(t, x, key, value, api.Any, api.OK)
			finds(t, x, key, value)
			has(t, x, key+value)
			updates(t, x, value, key, api.Any, api.ErrArg)
			deletes(t, x, value, api.ErrArg)
			deletes(t, x, key, api.OK)
			has(t, x, "")
		}
	}
}

func TestJ2HashIsFull(t *testing.T) {
	for _, most := range []int{1, 2, 3, 1024} {
		x := made(t, api.Map{Name: "h", Kind: api.Hash, Key: 2, Value: 2, Max: most})
		for n := range most {
			updates(t, x, number(n)[:2], number(n)[:2], api.Any, api.OK)
		}
		other := number(most)[:2]
		updates(t, x, other, "zz", api.Any, api.ErrFull)
		updates(t, x, other, "zz", api.NoExist, api.ErrFull)
		updates(t, x, other, "zz", api.Exist, api.ErrNone)
		finds(t, x, other, "")
		updates(t, x, number(0)[:2], "zz", api.NoExist, api.ErrExist)
		updates(t, x, number(0)[:2], "aa", api.Exist, api.OK)
		updates(t, x, number(0)[:2], "bb", api.Any, api.OK)
		finds(t, x, number(0)[:2], "bb")
		if x.Len() != most {
			t.Errorf("Len: %d, want %d", x.Len(), most)
		}
		deletes(t, x, number(0)[:2], api.OK)
		updates(t, x, other, "zz", api.NoExist, api.OK)
		finds(t, x, other, "zz")
		updates(t, x, number(0)[:2], "aa", api.Any, api.ErrFull)
	}
}

func TestJ2LRUIsNeverFull(t *testing.T) {
	for _, most := range []int{1, 2, 3, 1024} {
		x := made(t, api.Map{Name: "l", Kind: api.LRU, Key: 2, Value: 2, Max: most})
		for n := range 3 * most {
			updates(t, x, number(n)[:2], number(n)[:2], n%2, api.OK)
			if x.Len() != min(n+1, most) {
				t.Fatalf("Len: %d behind %d", x.Len(), n+1)
			}
			if n >= most {
				finds(t, x, number(n - most)[:2], "")
			}
		}
		n := 2 * most
		for k := range x.All() {
			if k != number(n)[:2] {
				t.Fatalf("%q, want %q", k, number(n)[:2])
			}
			n++
		}
	}
}

func TestJ2ErrorsUseNone(t *testing.T) {
	x := filled(t, api.LRU, 3, "a1 b2 c3")
	updates(t, x, "a", "9", api.NoExist, api.ErrExist)
	updates(t, x, "a", "99", api.Any, api.ErrArg)
	updates(t, x, "a", "9", 3, api.ErrArg)
	updates(t, x, "d", "9", api.Exist, api.ErrNone)
	deletes(t, x, "d", api.ErrNone)
	deletes(t, x, "aa", api.ErrArg)
	has(t, x, "a1 b2 c3")
	updates(t, x, "d", "4", api.Any, api.OK)
	has(t, x, "b2 c3 d4")
}

func TestJ2Delete(t *testing.T) {
	for _, kind := range []int{api.Hash, api.LRU} {
		x := filled(t, kind, 3, "a1 b2 c3")
		deletes(t, x, "", api.ErrArg)
		deletes(t, x, "aa", api.ErrArg)
		deletes(t, x, "d", api.ErrNone)
		if e := x.Delete(nil); e != api.ErrArg {
			t.Errorf("Delete(nil): %v", e)
		}
		has(t, x, "a1 b2 c3")
		deletes(t, x, "b", api.OK)
		has(t, x, "a1 c3")
		finds(t, x, "b", "")
		deletes(t, x, "b", api.ErrNone)
		updates(t, x, "b", "9", api.Exist, api.ErrNone)
		updates(t, x, "b", "4", api.NoExist, api.OK)
		has(t, x, map[int]string{api.Hash: "a1 b4 c3", api.LRU: "a1 c3 b4"}[kind])
		for _, key := range []string{"a", "b", "c"} {
			deletes(t, x, key, api.OK)
		}
		has(t, x, "")
	}
}

func TestJ2DeleteOfAnArray(t *testing.T) {
	x := made(t, some(api.Array))
	updates(t, x, number(1), "data", api.Any, api.OK)
	for _, n := range []int{0, 1, 2, 3, 1 << 20, -1} {
		deletes(t, x, number(n), api.ErrType)
	}
	for _, key := range []string{"", "a", "abc", "abcde"} {
		deletes(t, x, key, api.ErrArg)
	}
	finds(t, x, number(1), "data")
	if x.Len() != 3 {
		t.Errorf("Len: %d", x.Len())
	}
}

func TestJ2UpdateWritesIntoTheEntryThatThereIs(t *testing.T) {
	for _, kind := range kinds {
		x := made(t, some(kind))
		updates(t, x, number(1), "1111", [4]int{api.Array: api.Exist}[kind], api.OK)
		e, again := finds(t, x, number(1), "1111"), finds(t, x, number(1), "1111")
		updates(t, x, number(1), "2222", api.Any, api.OK)
		if string(e.Data) != "2222" || string(again.Data) != "2222" {
			t.Errorf("%q, %q", e.Data, again.Data)
		}
		e.Data[3] = '3'
		finds(t, x, number(1), "2223")
		if string(again.Data) != "2223" {
			t.Errorf("%q", again.Data)
		}
		if got := told(x); !strings.Contains(got, number(1)+"2223") {
			t.Errorf("%q", got)
		}
		updates(t, x, number(1), "3333", api.NoExist, api.ErrExist)
		if string(e.Data) != "2223" {
			t.Errorf("%q", e.Data)
		}
	}
}

func TestJ2UpdateByTheDataItself(t *testing.T) {
	for _, kind := range kinds {
		x := made(t, some(kind))
		updates(t, x, number(0), "abcd", api.Any, api.OK)
		updates(t, x, number(1), "efgh", api.Any, api.OK)
		e := finds(t, x, number(0), "abcd")
		if x.Update([]byte(number(0)), e.Data, api.Exist) != api.OK || x.Update([]byte(number(1)), e.Data, api.Exist) != api.OK {
			t.Fatal("not done")
		}
		finds(t, x, number(0), "abcd")
		finds(t, x, number(1), "abcd")
		e.Data[0] = 'z'
		finds(t, x, number(0), "zbcd")
		finds(t, x, number(1), "abcd")
	}
}

// An entry that is gone has its Data, but is of no table.
func TestJ2EntriesThatAreGone(t *testing.T) {
	for _, kind := range []int{api.Hash, api.LRU} {
		x := filled(t, kind, 2, "a1 b2")
		e := finds(t, x, "a", "1")
		deletes(t, x, "a", api.OK)
		if e.Key != "a" || string(e.Data) != "1" {
			t.Errorf("%q with %q", e.Key, e.Data)
		}
		e.Data[0] = '9'
		has(t, x, "b2")
		finds(t, x, "a", "")
		updates(t, x, "a", "3", api.NoExist, api.OK)
		if string(e.Data) != "9" {
			t.Errorf("%q", e.Data)
		}
		e.Data[0] = '8'
		finds(t, x, "a", "3")
	}
	x := filled(t, api.LRU, 2, "a1 b2")
	e := finds(t, x, "b", "2")
	finds(t, x, "a", "1")
	updates(t, x, "c", "3", api.Any, api.OK)
	e.Data[0] = '9'
	has(t, x, "a1 c3")
	updates(t, x, "b", "4", api.Any, api.OK)
	if string(e.Data) != "9" {
		t.Errorf("%q", e.Data)
	}
	has(t, x, "c3 b4")
}

// What is handed over stays as it was, and may be written over (R1).
func TestJ2ArgumentsAreNotKept(t *testing.T) {
	for _, kind := range kinds {
		x := made(t, some(kind))
		key, value := []byte(number(2)), []byte("abcd")
		if e := x.Update(key, value, api.Any); e != api.OK || string(key) != number(2) || string(value) != "abcd" {
			t.Fatalf("%v, %q, %q", e, key, value)
		}
		entry, is := x.Lookup(key)
		if !is || string(key) != number(2) {
			t.Fatalf("%v, %q", is, key)
		}
		copy(key, "zzzz")
		copy(value, "zzzz")
		if entry.Key != number(2) || string(entry.Data) != "abcd" {
			t.Errorf("%q with %q", entry.Key, entry.Data)
		}
		finds(t, x, number(2), "abcd")
		value = []byte("efgh")
		x.Update([]byte(number(2)), value, api.Exist)
		copy(value, "zzzz")
		finds(t, x, number(2), "efgh")
	}
}

// What is answered is the caller's, but for the bytes of Data (R1).
func TestJ2EntriesAreTheCallers(t *testing.T) {
	for _, kind := range kinds {
		x := made(t, some(kind))
		updates(t, x, number(0), "abcd", api.Any, api.OK)
		updates(t, x, number(1), "efgh", api.Any, api.OK)
		e := finds(t, x, number(0), "abcd")
		if longer := append(e.Data, "zzzz"...); string(longer) != "abcdzzzz" {
			t.Errorf("%q", longer)
		}
		other := finds(t, x, number(0), "abcd")
		e.Key, e.Data = "z", []byte("zz")
		if other.Key != number(0) || string(other.Data) != "abcd" {
			t.Errorf("%q with %q", other.Key, other.Data)
		}
		finds(t, x, number(0), "abcd")
		finds(t, x, number(1), "efgh")
		finds(t, x, "z", "")
		updates(t, x, number(0), "ijkl", api.Exist, api.OK)
		finds(t, x, number(0), "ijkl")
		for k, v := range x.All() {
			if k == number(0) && string(v) != "ijkl" {
				t.Errorf("%q", v)
			}
			if longer := append(v, 'z'); &longer[0] == &v[0] {
				t.Errorf("there is room behind the Data of %q", k)
			}
		}
	}
}

// Two tables have nothing to do with each other (R3).
func TestJ1TablesAreApart(t *testing.T) {
	for _, kind := range kinds {
		x, y := made(t, some(kind)), made(t, some(kind))
		updates(t, x, number(1), "abcd", api.Any, api.OK)
		before := told(y)
		updates(t, x, number(1), "efgh", api.Any, api.OK)
		finds(t, x, number(1), "efgh")
		x.Delete([]byte(number(1)))
		if got := told(y); got != before || strings.Contains(got, "abcd") {
			t.Errorf("%q", got)
		}
	}
}

// model does what the chapter's words say, on a list of entries: the one that was used longest ago first.
type model struct {
	m    api.Map
	rows []row
}

type row struct {
	key   string
	value []byte
}

func newModel(m api.Map) *model {
	d := &model{m: m}
	for n := range m.Max {
		if m.Kind == api.Array {
			d.rows = append(d.rows, row{number(n), make([]byte, m.Value)})
		}
	}
	return d
}

func (d *model) place(key string) int {
	return slices.IndexFunc(d.rows, func(r row) bool { return r.key == key })
}

func (d *model) use(at int) {
	if d.m.Kind == api.LRU {
		r := d.rows[at]
		d.rows = append(slices.Delete(d.rows, at, at+1), r)
	}
}

func (d *model) lookup(key string) (string, bool) {
	at := d.place(key)
	if at < 0 {
		return "", false
	}
	value := string(d.rows[at].value)
	d.use(at)
	return value, true
}

func (d *model) update(key, value string, flags int) api.Errno {
	at := d.place(key)
	switch {
	case len(key) != d.m.Key, len(value) != d.m.Value, flags < 0, flags > 2:
		return api.ErrArg
	case at >= 0 && flags == api.NoExist:
		return api.ErrExist
	case at >= 0:
		d.rows[at].value = []byte(value)
		d.use(at)
	case flags == api.Exist, d.m.Kind == api.Array:
		return api.ErrNone
	case d.m.Kind == api.Hash && len(d.rows) == d.m.Max:
		return api.ErrFull
	default:
		if d.rows = append(d.rows, row{key, []byte(value)}); len(d.rows) > d.m.Max {
			d.rows = d.rows[1:]
		}
	}
	return api.OK
}

func (d *model) drop(key string) api.Errno {
	at := d.place(key)
	switch {
	case len(key) != d.m.Key:
		return api.ErrArg
	case d.m.Kind == api.Array:
		return api.ErrType
	case at < 0:
		return api.ErrNone
	}
	d.rows = slices.Delete(d.rows, at, at+1)
	return api.OK
}

func (d *model) told() string {
	rows := slices.Clone(d.rows)
	if d.m.Kind == api.Hash {
		slices.SortFunc(rows, func(a, b row) int { return cmp.Compare(a.key, b.key) })
	}
	var l []string
	for _, r := range rows {
		l = append(l, r.key+string(r.value))
	}
	return strings.Join(l, " ")
}

// both does one thing with a table and with its model.
func both(t *testing.T, x *table.Table, d *model, what int, key, value string, flags int) {
	t.Helper()
	switch what {
	case 0:
		e, is := x.Lookup([]byte(key))
		want, wanted := d.lookup(key)
		if is != wanted || is != (e != nil) || is && (e.Key != key || string(e.Data) != want) {
			t.Fatalf("Lookup(%q): %v, %v, want %q, %v", key, e, is, want, wanted)
		}
	case 1:
		got, want := x.Update([]byte(key), []byte(value), flags), d.update(key, value, flags)
		if got != want {
			t.Fatalf("Update(%q, %q, %d): %v, want %v", key, value, flags, got, want)
		}
	default:
		if got, want := x.Delete([]byte(key)), d.drop(key); got != want {
			t.Fatalf("Delete(%q): %v, want %v", key, got, want)
		}
	}
	if got, want := told(x), d.told(); got != want || x.Len() != len(d.rows) {
		t.Fatalf("behind %d of %q: %q, want %q; Len %d", what, key, got, want, x.Len())
	}
}

// All histories of four calls with three keys.
func TestJ2ShortHistories(t *testing.T) {
	type call struct{ what, key, flags int }
	var calls []call
	for key := range 3 {
		calls = append(calls, call{0, key, 0}, call{1, key, api.Any}, call{1, key, api.NoExist}, call{1, key, api.Exist}, call{2, key, 0})
	}
	const long = 4
	for _, kind := range kinds {
		for _, most := range []int{1, 2} {
			m := api.Map{Name: "m", Kind: kind, Key: 4, Value: 1, Max: most}
			for history := range pow(len(calls), long) {
				x, d := made(t, m), newModel(m)
				for i, rest := 0, history; i < long; i, rest = i+1, rest/len(calls) {
					c := calls[rest%len(calls)]
					both(t, x, d, c.what, number(c.key), strconv.Itoa(i), c.flags)
				}
			}
		}
	}
}

func pow(n, times int) int {
	out := 1
	for range times {
		out *= n
	}
	return out
}

// Long histories, drawn by a rule, with wrong arguments between.
func TestJ2LongHistories(t *testing.T) {
	drawn := uint32(10)
	draw := func(n int) int {
		drawn = drawn*1664525 + 1013904223
		return int(drawn>>8) % n
	}
	for _, kind := range kinds {
		for _, most := range []int{1, 2, 5, 40} {
			m := api.Map{Name: "m", Kind: kind, Key: 4, Value: 3, Max: most}
			x, d := made(t, m), newModel(m)
			for range 4000 {
				key := number(draw(2*most + 1))
				value := strconv.Itoa(100 + draw(900))
				switch draw(40) {
				case 0:
					key = key[:draw(4)]
				case 1:
					value += "!"
				case 2:
					key = number(1<<8 | draw(1<<24)<<8)
				}
				both(t, x, d, draw(3), key, value, draw(5)-1)
			}
		}
	}
}

// What was written into an entry is what is looked up (What follows).
func TestJ2WhatIsWrittenIsLookedUp(t *testing.T) {
	for _, kind := range kinds {
		m := api.Map{Name: "m", Kind: kind, Key: 4, Value: 256, Max: 1024}
		x := made(t, m)
		for n := range m.Max {
			value := bytes.Repeat([]byte{byte(n), byte(n >> 8)}, 128)
			updates(t, x, number(n), string(value), api.Any, api.OK)
		}
		for n := range m.Max {
			e := finds(t, x, number(n), strings.Repeat(number(n)[:2], 128))
			e.Data[255]++
		}
		for n := range m.Max {
			e, is := x.Lookup([]byte(number(n)))
			if !is || e.Data[255] != byte(n>>8)+1 || e.Data[254] != byte(n) {
				t.Fatalf("%d: %v", n, is)
			}
		}
	}
}
