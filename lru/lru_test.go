package lru_test

import (
	"maps"
	"math"
	"slices"
	"strings"
	"testing"

	"swingbridge/lru"
)

// pair is a key with its value.
type pair struct {
	k string
	v int
}

// row is what a text of pairs tells: "a1 b2" is a with 1, and b with 2.
func row(text string) []pair {
	var out []pair
	for _, f := range strings.Fields(text) {
		out = append(out, pair{f[:1], int(f[1] - '0')})
	}
	return out
}

func pairs(l *lru.List[string, int]) []pair {
	var out []pair
	for k, v := range l.All() {
		out = append(out, pair{k, v})
	}
	return out
}

// holds asks for all of it twice, by calls that use no key.
func holds(t *testing.T, l *lru.List[string, int], want []pair) {
	t.Helper()
	for range 2 {
		if got := pairs(l); !slices.Equal(got, want) {
			t.Fatalf("All: %v, want %v", got, want)
		}
		if n := l.Len(); n != len(want) {
			t.Fatalf("Len: %d, want %d", n, len(want))
		}
		for _, x := range want {
			if v, is := l.Peek(x.k); v != x.v || !is {
				t.Fatalf("Peek(%q): %d, %v, want %d", x.k, v, is, x.v)
			}
		}
		first := pair{}
		if len(want) > 0 {
			first = want[0]
		}
		if k, is := l.Oldest(); k != first.k || is != (len(want) > 0) {
			t.Fatalf("Oldest: %q, %v, want %q", k, is, first.k)
		}
	}
}

// filled has the pairs of a text, put one behind the other, of which none goes.
func filled(t *testing.T, most int, text string) *lru.List[string, int] {
	t.Helper()
	l := lru.New[string, int](most)
	for _, x := range row(text) {
		puts(t, l, x.k, x.v)
	}
	holds(t, l, row(text))
	return l
}

func puts(t *testing.T, l *lru.List[string, int], k string, v int) {
	t.Helper()
	if out, is := l.Put(k, v); out != "" || is {
		t.Errorf("Put(%q, %d): %q, %v, want none to go", k, v, out, is)
	}
}

func putsOut(t *testing.T, l *lru.List[string, int], k string, v int, want string) {
	t.Helper()
	if out, is := l.Put(k, v); out != want || !is {
		t.Errorf("Put(%q, %d): %q, %v, want %q to go", k, v, out, is, want)
	}
}

func TestI1ExampleOfTheChapter(t *testing.T) {
	l := filled(t, 2, "a1 b2")
	l.Get("a")
	putsOut(t, l, "c", 3, "b")
	holds(t, l, row("a1 c3"))
}

func TestI1NewHasNoKeys(t *testing.T) {
	for _, most := range []int{math.MinInt, -1, 0, 1, 2, math.MaxInt} {
		l := lru.New[string, int](most)
		holds(t, l, nil)
		for _, k := range []string{"", "a"} {
			if v, is := l.Get(k); v != 0 || is {
				t.Errorf("Get(%q): %d, %v", k, v, is)
			}
			if v, is := l.Peek(k); v != 0 || is {
				t.Errorf("Peek(%q): %d, %v", k, v, is)
			}
			if l.Touch(k) || l.Drop(k) {
				t.Errorf("%q is there", k)
			}
		}
		holds(t, l, nil)
	}
}

func TestI1MostBelowOneIsOne(t *testing.T) {
	for _, most := range []int{math.MinInt, -2, -1, 0, 1} {
		l := filled(t, most, "a1")
		putsOut(t, l, "b", 2, "a")
		holds(t, l, row("b2"))
		puts(t, l, "b", 3)
		holds(t, l, row("b3"))
		putsOut(t, l, "a", 4, "b")
		holds(t, l, row("a4"))
	}
}

func TestI1ThereAreNeverMoreThanMost(t *testing.T) {
	for _, most := range []int{1, 2, 3, 10, 1024} {
		l := lru.New[int, int](most)
		for k := range 3 * most {
			out, is := l.Put(k, -k)
			if is != (k >= most) || is && out != k-most || !is && out != 0 || l.Len() != min(k+1, most) {
				t.Fatalf("at most %d: Put(%d): %d, %v, and there are %d", most, k, out, is, l.Len())
			}
		}
		want := 2 * most
		for k, v := range l.All() {
			if k != want || v != -k {
				t.Fatalf("at most %d: %d with %d, want %d", most, k, v, want)
			}
			want++
		}
		if want != 3*most {
			t.Errorf("at most %d: All ends ahead of %d", most, want)
		}
	}
}

func TestI1NoneGoesWhereThereIsRoom(t *testing.T) {
	l := lru.New[int, int](math.MaxInt)
	for k := range 100_000 {
		if out, is := l.Put(k, k); out != 0 || is {
			t.Fatalf("Put(%d): %d, %v", k, out, is)
		}
	}
	if v, is := l.Get(0); l.Len() != 100_000 || v != 0 || !is {
		t.Errorf("%d keys, 0 with %d, %v", l.Len(), v, is)
	}
}

func TestI1PutUsesAndReplaces(t *testing.T) {
	l := filled(t, 3, "a1 b2 c3")
	puts(t, l, "a", 4)
	holds(t, l, row("b2 c3 a4"))
	puts(t, l, "c", 5)
	holds(t, l, row("b2 a4 c5"))
	puts(t, l, "c", 5)
	holds(t, l, row("b2 a4 c5"))
	putsOut(t, l, "d", 6, "b")
	holds(t, l, row("a4 c5 d6"))
	putsOut(t, l, "b", 7, "a")
	holds(t, l, row("c5 d6 b7"))
}

func TestI1GetAndTouchUse(t *testing.T) {
	for name, use := range map[string]func(l *lru.List[string, int], k string) bool{
		"Get": func(l *lru.List[string, int], k string) bool {
			v, is := l.Get(k)
			return is && v == int(k[0]-'a')+1 || !is && v != 0
		},
		"Touch": func(l *lru.List[string, int], k string) bool { return l.Touch(k) },
	} {
		for _, x := range []struct{ k, want string }{
			{"a", "b2 c3 a1"}, {"b", "a1 c3 b2"}, {"c", "a1 b2 c3"},
		} {
			l := filled(t, 3, "a1 b2 c3")
			if !use(l, x.k) {
				t.Errorf("%s(%q): not there", name, x.k)
			}
			holds(t, l, row(x.want))
			if use(l, "d") || use(l, "") {
				t.Errorf("%s: there is one that is not", name)
			}
			holds(t, l, row(x.want))
		}
	}
}

func TestI1PeekAndOldestDoNotUse(t *testing.T) {
	l := filled(t, 2, "a1 b2")
	if v, is := l.Peek("a"); v != 1 || !is {
		t.Errorf("Peek: %d, %v", v, is)
	}
	if v, is := l.Peek("c"); v != 0 || is {
		t.Errorf("Peek of none: %d, %v", v, is)
	}
	if k, is := l.Oldest(); k != "a" || !is {
		t.Errorf("Oldest: %q, %v", k, is)
	}
	holds(t, l, row("a1 b2"))
	putsOut(t, l, "c", 3, "a")
}

func TestI1Drop(t *testing.T) {
	for _, x := range []struct{ k, want string }{
		{"a", "b2 c3"}, {"b", "a1 c3"}, {"c", "a1 b2"},
	} {
		l := filled(t, 3, "a1 b2 c3")
		if l.Drop("d") || !l.Drop(x.k) {
			t.Errorf("Drop(%q)", x.k)
		}
		holds(t, l, row(x.want))
		if v, is := l.Get(x.k); v != 0 || is {
			t.Errorf("Get(%q) behind its Drop: %d, %v", x.k, v, is)
		}
		if _, is := l.Peek(x.k); is || l.Touch(x.k) || l.Drop(x.k) {
			t.Errorf("%q is there behind its Drop", x.k)
		}
		holds(t, l, row(x.want))
		puts(t, l, x.k, 9)
		holds(t, l, row(x.want+" "+x.k+"9"))
		putsOut(t, l, "e", 8, x.want[:1])
	}
	l := filled(t, 2, "a1 b2")
	if !l.Drop("b") || !l.Drop("a") {
		t.Error("Drop of all")
	}
	holds(t, l, nil)
	puts(t, l, "c", 3)
	holds(t, l, row("c3"))
}

func TestI1OneThatWentIsNotThere(t *testing.T) {
	l := filled(t, 2, "a1 b2")
	putsOut(t, l, "c", 3, "a")
	if v, is := l.Get("a"); v != 0 || is {
		t.Errorf("Get: %d, %v", v, is)
	}
	if _, is := l.Peek("a"); is || l.Touch("a") || l.Drop("a") {
		t.Error("a is there")
	}
	holds(t, l, row("b2 c3"))
}

func TestI1AllMayBeStoppedAndBegunAgain(t *testing.T) {
	l := filled(t, 3, "a1 b2 c3")
	all := l.All()
	for stop := range 4 {
		var got []pair
		for k, v := range all {
			if got = append(got, pair{k, v}); len(got) > stop {
				break
			}
		}
		if want := row("a1 b2 c3")[:min(stop+1, 3)]; !slices.Equal(got, want) {
			t.Errorf("%v, want %v", got, want)
		}
		holds(t, l, row("a1 b2 c3"))
	}
}

// TestI1AllGoesWithinItself: calls that change nothing may be made while it goes on.
func TestI1AllGoesWithinItself(t *testing.T) {
	l := filled(t, 2, "a1 b2")
	got := ""
	for k := range l.All() {
		for m := range l.All() {
			got += k + m + " "
		}
		holds(t, l, row("a1 b2"))
	}
	if got != "aa ab ba bb " {
		t.Error(got)
	}
}

// TestI1ZeroesAreKeysAndValues: what a call tells of them stands in its second answer alone.
func TestI1ZeroesAreKeysAndValues(t *testing.T) {
	l := lru.New[string, int](1)
	puts(t, l, "", 0)
	if k, is := l.Oldest(); k != "" || !is || l.Len() != 1 {
		t.Errorf("Oldest: %q, %v", k, is)
	}
	if v, is := l.Get(""); v != 0 || !is {
		t.Errorf("Get: %d, %v", v, is)
	}
	if v, is := l.Peek(""); v != 0 || !is || !l.Touch("") {
		t.Errorf("Peek: %d, %v", v, is)
	}
	putsOut(t, l, "\x00", 0, "")
	if !l.Drop("\x00") || l.Drop("") {
		t.Error("Drop")
	}
}

func TestI1KeysAndValuesOfOtherTypes(t *testing.T) {
	type key struct {
		part [2]int
		name string
	}
	a, b, c := key{name: "x"}, key{part: [2]int{0, 1}, name: "x"}, key{name: "y"}
	one := &struct{ n int }{1}
	l := lru.New[key, any](2)
	l.Put(a, one)
	l.Put(b, nil)
	if v, is := l.Get(a); v != any(one) || !is {
		t.Errorf("Get: %v, %v", v, is)
	}
	if v, is := l.Peek(b); v != nil || !is {
		t.Errorf("Peek: %v, %v", v, is)
	}
	if out, is := l.Put(c, []int{1}); out != b || !is {
		t.Errorf("Put: %v, %v", out, is)
	}
	if v, is := l.Get(b); v != nil || is {
		t.Errorf("Get of one that went: %v, %v", v, is)
	}
}

func TestI1ListsAreApart(t *testing.T) {
	l, m := filled(t, 2, "a1 b2"), filled(t, 2, "a3")
	m.Touch("a")
	m.Put("b", 4)
	m.Put("c", 5)
	holds(t, l, row("a1 b2"))
	l.Drop("b")
	holds(t, m, row("b4 c5"))
}

// model is the chapter's words done on a slice; it answers as the calls do.
type model struct {
	most int
	rows []pair
}

func (m *model) at(k string) int {
	return slices.IndexFunc(m.rows, func(x pair) bool { return x.k == k })
}

func (m *model) drop(k string) (pair, bool) {
	i := m.at(k)
	if i < 0 {
		return pair{}, false
	}
	x := m.rows[i]
	m.rows = slices.Delete(m.rows, i, i+1)
	return x, true
}

func (m *model) use(k string) (pair, bool) {
	x, is := m.drop(k)
	if is {
		m.rows = append(m.rows, x)
	}
	return x, is
}

func (m *model) put(k string, v int) (string, bool) {
	m.drop(k)
	m.rows = append(m.rows, pair{k, v})
	if len(m.rows) <= m.most {
		return "", false
	}
	first := m.rows[0].k
	m.rows = slices.Clone(m.rows[1:])
	return first, true
}

// agree does one of the five calls that may change something on both.
func agree(l *lru.List[string, int], m *model, call int, k string, v int) bool {
	switch call {
	case 0:
		out, is := l.Put(k, v)
		want, wantIs := m.put(k, v)
		return out == want && is == wantIs
	case 1:
		got, is := l.Get(k)
		x, wantIs := m.use(k)
		return got == x.v && is == wantIs
	case 2:
		_, is := m.use(k)
		return l.Touch(k) == is
	case 3:
		_, is := m.drop(k)
		return l.Drop(k) == is
	}
	got, is := l.Peek(k)
	if i := m.at(k); i >= 0 {
		return got == m.rows[i].v && is
	}
	return got == 0 && !is
}

// TestI1AllShortHistories does all histories of five steps: each is one of four keys put, or one of the first two got, touched or dropped.
func TestI1AllShortHistories(t *testing.T) {
	const kinds, steps, histories = 10, 5, 100_000
	for most := range 4 {
		for history := range histories {
			l, m := lru.New[string, int](most), &model{most: max(most, 1)}
			for step, rest := 0, history; step < steps; step, rest = step+1, rest/kinds {
				kind := rest % kinds
				call, k := 0, "abcd"[kind%4:][:1]
				if kind >= 4 {
					call, k = kind/2-1, "ab"[kind%2:][:1]
				}
				if !agree(l, m, call, k, step+1) {
					t.Fatalf("at most %d, history %d, step %d: call %d of %q", most, history, step, call, k)
				}
			}
			holds(t, l, m.rows)
		}
	}
}

// TestI1LongHistories draws steps by a rule, so that they are the same each time.
func TestI1LongHistories(t *testing.T) {
	draw := uint64(1)
	next := func(n int) int {
		draw = draw*6364136223846793005 + 1442695040888963407
		return int(draw>>33) % n
	}
	for most := 1; most <= 12; most++ {
		l, m := lru.New[string, int](most), &model{most: most}
		for step := range 3000 {
			call, k := next(5), "abcdefghijklmnop"[next(16):][:1]
			if !agree(l, m, call, k, step) {
				t.Fatalf("at most %d, step %d: call %d of %q", most, step, call, k)
			}
			holds(t, l, m.rows)
		}
	}
}

// TestI1KeysThatAreNotFound: one that is not the same as itself, or that cannot be compared, is put as a new one each time, and goes when its turn comes.
func TestI1KeysThatAreNotFound(t *testing.T) {
	for name, k := range map[string]any{
		"NaN":              math.NaN(),
		"slice":            []int{1},
		"map":              map[int]int{},
		"function":         func() {},
		"struct of slices": struct{ a, b any }{1, []int{1}},
		"array of NaN":     [2]any{1, math.NaN()},
	} {
		l := lru.New[any, int](2)
		for i := range 2 {
			if out, is := l.Put(k, i); out != nil || is {
				t.Errorf("%s: Put: %v, %v", name, out, is)
			}
		}
		if v, is := l.Get(k); v != 0 || is {
			t.Errorf("%s: Get: %d, %v", name, v, is)
		}
		if v, is := l.Peek(k); v != 0 || is || l.Touch(k) || l.Drop(k) {
			t.Errorf("%s: Peek: %d, %v", name, v, is)
		}
		if out, is := l.Put("x", 2); out == nil || !is || l.Len() != 2 {
			t.Errorf("%s: Put: %v, %v, and there are %d", name, out, is, l.Len())
		}
		if out, is := l.Put("y", 3); out == nil || !is || l.Len() != 2 {
			t.Errorf("%s: Put: %v, %v, and there are %d", name, out, is, l.Len())
		}
		if got := maps.Collect(l.All()); !maps.Equal(got, map[any]int{"x": 2, "y": 3}) {
			t.Errorf("%s: %v", name, got)
		}
	}
}

func TestI1FloatsAsKeys(t *testing.T) {
	l := lru.New[float64, int](3)
	l.Put(0, 1)
	l.Put(math.Copysign(0, -1), 2)
	if v, is := l.Get(0); v != 2 || !is || l.Len() != 1 {
		t.Errorf("0: %d, %v, of %d", v, is, l.Len())
	}
	for range 10 {
		l.Put(math.NaN(), 3)
	}
	if _, is := l.Get(0); is || l.Len() != 3 {
		t.Errorf("0: %v, of %d", is, l.Len())
	}
}
