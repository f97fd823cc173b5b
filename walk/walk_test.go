package walk_test

import (
	"fmt"
	"iter"
	"maps"
	"math"
	"slices"
	"strconv"
	"strings"
	"testing"

	"refit/walk"
)

// trace is what happens, in order, while a walk is used.
type trace []string

func (tr *trace) note(what string, v any) { *tr = append(*tr, fmt.Sprint(what, " ", v)) }

// upTo is a walk over 1 to n, which notes each element that is requested, and each request behind the last one.
func (tr *trace) upTo(n int) iter.Seq[int] {
	return func(yield func(int) bool) {
		for i := 1; i <= n; i++ {
			tr.note("ask", i)
			if !yield(i) {
				return
			}
		}
		tr.note("ask", "end")
	}
}

// pairsUpTo is a walk as upTo, over pairs of a number and its text with a zero behind it.
func (tr *trace) pairsUpTo(n int) iter.Seq2[int, string] {
	return func(yield func(int, string) bool) {
		for i := range tr.upTo(n) {
			if !yield(i, strconv.Itoa(i)+"0") {
				return
			}
		}
	}
}

func (tr *trace) square(v int) string {
	tr.note("turn", v)
	return strconv.Itoa(v * v)
}

// keeping is a function for Filter which notes the pairs that it is called with.
func (tr *trace) keeping(keep func(int) bool) func(int, string) bool {
	return func(k int, v string) bool {
		tr.note("keep", k)
		if v != strconv.Itoa(k)+"0" {
			tr.note("wrong", v)
		}
		return keep(k)
	}
}

func even(v int) bool { return v%2 == 0 }

func all(int) bool { return true }

func none(int) bool { return false }

// texts is a walk over the pairs of s as texts.
func texts[K, V any](s iter.Seq2[K, V]) iter.Seq[string] {
	return func(yield func(string) bool) {
		for k, v := range s {
			if !yield(fmt.Sprint(k, ":", v)) {
				return
			}
		}
	}
}

// use ranges over s, and ends the loop at the element stop, counted from 1, or with s if stop is 0.
func use[V any](tr *trace, s iter.Seq[V], stop int) string {
	*tr = nil
	n := 0
	for v := range s {
		tr.note("got", v)
		n++
		if n == stop {
			break
		}
	}
	return strings.Join(*tr, ", ")
}

// until is the part of a trace up to the element stop that the loop got, or all of it if stop is 0.
func until(want string, stop int) string {
	var l []string
	for _, s := range strings.Split(want, ", ") {
		l = append(l, s)
		if strings.HasPrefix(s, "got ") {
			stop--
			if stop == 0 {
				break
			}
		}
	}
	return strings.Join(l, ", ")
}

// checkTrace uses a walk over and over: up to its end, and with loops that end at each of its elements.
func checkTrace[V any](t *testing.T, what, want string, from func(tr *trace) iter.Seq[V]) {
	t.Helper()
	tr := &trace{}
	s := from(tr)
	if len(*tr) > 0 {
		t.Errorf("%s: ahead of the loop: %v", what, *tr)
	}
	for range 2 {
		for stop := range strings.Count(want, "got ") + 1 {
			if got := use(tr, s, stop); got != until(want, stop) {
				t.Errorf("%s, stopped at %d: %s instead of %s", what, stop, got, until(want, stop))
			}
		}
	}
}

// same holds the elements of s against those of a list, twice.
func same[V comparable](t *testing.T, what string, s iter.Seq[V], want ...V) {
	t.Helper()
	for range 2 {
		var got []V
		for v := range s {
			got = append(got, v)
		}
		if !slices.Equal(got, want) {
			t.Errorf("%s: %#v instead of %#v", what, got, want)
		}
	}
}

// nothing ranges over s, which must not have an element.
func nothing[V any](t *testing.T, what string, s iter.Seq[V]) {
	t.Helper()
	for range 2 {
		for v := range s {
			t.Errorf("%s: %v", what, v)
		}
	}
}

func TestExample(t *testing.T) {
	l, ok := walk.List(walk.Take(walk.Skip(walk.Of(1, 2, 3, 4), 1), 2), 9)
	if !slices.Equal(l, []int{2, 3}) || !ok {
		t.Errorf("%v %v", l, ok)
	}
}

func TestFilter(t *testing.T) {
	for _, c := range []struct {
		what string
		n    int
		keep func(int) bool
		want string
	}{
		{"some", 5, even, "ask 1, keep 1, ask 2, keep 2, got 2:20, ask 3, keep 3, ask 4, keep 4, got 4:40, ask 5, keep 5, ask end"},
		{"the last", 4, even, "ask 1, keep 1, ask 2, keep 2, got 2:20, ask 3, keep 3, ask 4, keep 4, got 4:40, ask end"},
		{"all", 3, all, "ask 1, keep 1, got 1:10, ask 2, keep 2, got 2:20, ask 3, keep 3, got 3:30, ask end"},
		{"none", 3, none, "ask 1, keep 1, ask 2, keep 2, ask 3, keep 3, ask end"},
		{"of nothing", 0, all, "ask end"},
	} {
		checkTrace(t, c.what, c.want, func(tr *trace) iter.Seq[string] {
			return texts(walk.Filter(tr.pairsUpTo(c.n), tr.keeping(c.keep)))
		})
	}
	want := "ask 1, got 1:10, ask 2, got 2:20, ask 3, got 3:30, ask end"
	checkTrace(t, "nil keep", want, func(tr *trace) iter.Seq[string] { return texts(walk.Filter(tr.pairsUpTo(3), nil)) })
	checkTrace(t, "nil keep of nothing", "ask end", func(tr *trace) iter.Seq[string] { return texts(walk.Filter(tr.pairsUpTo(0), nil)) })
}

func TestFilterAsksAboutKeysAndValues(t *testing.T) {
	s := walk.Filter(maps.All(map[string]int{"a": 1, "b": 1, "c": 2}), func(k string, v int) bool { return k == "b" || v == 2 })
	got := map[string]int{}
	for k, v := range s {
		got[k] = v
	}
	if !maps.Equal(got, map[string]int{"b": 1, "c": 2}) {
		t.Errorf("%v", got)
	}
}

func TestMap(t *testing.T) {
	want := "ask 1, turn 1, got 1, ask 2, turn 2, got 4, ask 3, turn 3, got 9, ask end"
	checkTrace(t, "squares", want, func(tr *trace) iter.Seq[string] { return walk.Map(tr.upTo(3), tr.square) })
	checkTrace(t, "of nothing", "ask end", func(tr *trace) iter.Seq[string] { return walk.Map(tr.upTo(0), tr.square) })
	checkTrace(t, "nil turn", "", func(tr *trace) iter.Seq[string] { return walk.Map[int, string](tr.upTo(3), nil) })
}

// turn is called anew in each loop: its results are not kept.
func TestMapOfAFunctionThatCounts(t *testing.T) {
	calls := 0
	s := walk.Map(walk.Of(10, 20), func(v int) int {
		calls++
		return v + calls
	})
	for i, want := range [][]int{{11, 22}, {13, 24}} {
		if l, ok := walk.List(s, 2); !slices.Equal(l, want) || !ok || calls != 2*i+2 {
			t.Errorf("%v %v with %d calls", l, ok, calls)
		}
	}
}

func TestValuesAndKeys(t *testing.T) {
	checkTrace(t, "Values", "ask 1, got 10, ask 2, got 20, ask 3, got 30, ask end", func(tr *trace) iter.Seq[string] {
		return walk.Values(tr.pairsUpTo(3))
	})
	checkTrace(t, "Keys", "ask 1, got 1, ask 2, got 2, ask 3, got 3, ask end", func(tr *trace) iter.Seq[int] {
		return walk.Keys(tr.pairsUpTo(3))
	})
	checkTrace(t, "Values of nothing", "ask end", func(tr *trace) iter.Seq[string] { return walk.Values(tr.pairsUpTo(0)) })
	checkTrace(t, "Keys of nothing", "ask end", func(tr *trace) iter.Seq[int] { return walk.Keys(tr.pairsUpTo(0)) })
}

func TestTake(t *testing.T) {
	four := "ask 1, got 1, ask 2, got 2, ask 3, got 3, ask 4, got 4"
	for n, want := range map[int]string{
		math.MinInt: "",
		-1:          "",
		0:           "",
		1:           until(four, 1),
		2:           until(four, 2),
		3:           until(four, 3),
		4:           four,
		5:           four + ", ask end",
		math.MaxInt: four + ", ask end",
	} {
		checkTrace(t, fmt.Sprint("Take ", n), want, func(tr *trace) iter.Seq[int] { return walk.Take(tr.upTo(4), n) })
	}
	for n, want := range map[int]string{-1: "", 0: "", 1: "ask end"} {
		checkTrace(t, fmt.Sprint("of nothing ", n), want, func(tr *trace) iter.Seq[int] { return walk.Take(tr.upTo(0), n) })
	}
}

func TestSkip(t *testing.T) {
	for n, want := range map[int]string{
		math.MinInt: "ask 1, got 1, ask 2, got 2, ask 3, got 3, ask 4, got 4, ask end",
		-1:          "ask 1, got 1, ask 2, got 2, ask 3, got 3, ask 4, got 4, ask end",
		0:           "ask 1, got 1, ask 2, got 2, ask 3, got 3, ask 4, got 4, ask end",
		1:           "ask 1, ask 2, got 2, ask 3, got 3, ask 4, got 4, ask end",
		2:           "ask 1, ask 2, ask 3, got 3, ask 4, got 4, ask end",
		3:           "ask 1, ask 2, ask 3, ask 4, got 4, ask end",
		4:           "ask 1, ask 2, ask 3, ask 4, ask end",
		5:           "ask 1, ask 2, ask 3, ask 4, ask end",
		math.MaxInt: "ask 1, ask 2, ask 3, ask 4, ask end",
	} {
		checkTrace(t, fmt.Sprint("Skip ", n), want, func(tr *trace) iter.Seq[int] { return walk.Skip(tr.upTo(4), n) })
	}
	for _, n := range []int{-1, 0, 1} {
		checkTrace(t, fmt.Sprint("of nothing ", n), "ask end", func(tr *trace) iter.Seq[int] { return walk.Skip(tr.upTo(0), n) })
	}
}

func TestChain(t *testing.T) {
	two := "ask 1, got 1, ask 2, got 2, ask end"
	for _, c := range []struct {
		what string
		from func(tr *trace) iter.Seq[int]
		want string
	}{
		{"no walks", func(*trace) iter.Seq[int] { return walk.Chain[int]() }, ""},
		{"an empty list", func(*trace) iter.Seq[int] { return walk.Chain([]iter.Seq[int]{}...) }, ""},
		{"one", func(tr *trace) iter.Seq[int] { return walk.Chain(tr.upTo(2)) }, two},
		{"an empty one", func(tr *trace) iter.Seq[int] { return walk.Chain(tr.upTo(0)) }, "ask end"},
		{"nil", func(*trace) iter.Seq[int] { return walk.Chain(iter.Seq[int](nil)) }, ""},
		{"nil, nil", func(*trace) iter.Seq[int] { return walk.Chain[int](nil, nil) }, ""},
		{"two", func(tr *trace) iter.Seq[int] { return walk.Chain(tr.upTo(2), tr.upTo(1)) }, two + ", ask 1, got 1, ask end"},
		{"one twice", func(tr *trace) iter.Seq[int] { s := tr.upTo(2); return walk.Chain(s, s) }, two + ", " + two},
		{"nil ahead", func(tr *trace) iter.Seq[int] { return walk.Chain(nil, tr.upTo(2)) }, two},
		{"nil behind", func(tr *trace) iter.Seq[int] { return walk.Chain(tr.upTo(2), nil) }, two},
		{"nil among them", func(tr *trace) iter.Seq[int] { return walk.Chain(tr.upTo(2), nil, nil, tr.upTo(2)) }, two + ", " + two},
		{"empty ones", func(tr *trace) iter.Seq[int] {
			return walk.Chain(tr.upTo(0), tr.upTo(2), tr.upTo(0), nil, tr.upTo(0), tr.upTo(1), tr.upTo(0))
		}, "ask end, " + two + ", ask end, ask end, ask 1, got 1, ask end, ask end"},
		{"of chains", func(tr *trace) iter.Seq[int] {
			return walk.Chain(walk.Chain(tr.upTo(2), tr.upTo(2)), walk.Chain[int](), walk.Chain(nil, tr.upTo(2)))
		}, two + ", " + two + ", " + two},
	} {
		checkTrace(t, c.what, c.want, c.from)
	}
}

func TestOf(t *testing.T) {
	nothing(t, "no arguments", walk.Of[int]())
	nothing(t, "an empty list", walk.Of([]string{}...))
	same(t, "one", walk.Of("a"), "a")
	same(t, "equal ones", walk.Of(3, 3, 1, 3), 3, 3, 1, 3)
	want := "got 1, got 2, got 3"
	checkTrace(t, "three", want, func(*trace) iter.Seq[int] { return walk.Of(1, 2, 3) })
}

// Chain and Of have a list of their own: the caller may do with theirs what they like.
func TestListsAreNotRetained(t *testing.T) {
	l := append(make([]int, 0, 8), 1, 2, 3)
	s := walk.Of(l...)
	l[1] = 9
	_ = append(l, 4)
	same(t, "Of", s, 1, 2, 3)
	if !slices.Equal(l[:4], []int{1, 9, 3, 4}) {
		t.Errorf("the list of Of is %v", l[:4])
	}
	ss := append(make([]iter.Seq[int], 0, 4), walk.Of(1), walk.Of(2))
	s = walk.Chain(ss...)
	ss[0], ss[1] = nil, walk.Of(9)
	_ = append(ss, walk.Of(10))
	same(t, "Chain", s, 1, 2)
	if ss[0] != nil {
		t.Error("the list of Chain is changed")
	}
}

func TestList(t *testing.T) {
	four := []int{1, 2, 3, 4}
	for _, c := range []struct {
		n, most int
		want    []int
		ok      bool
		asked   string
	}{
		{4, math.MinInt, nil, false, "ask 1"},
		{4, -1, nil, false, "ask 1"},
		{4, 0, nil, false, "ask 1"},
		{4, 1, four[:1], false, "ask 1, ask 2"},
		{4, 3, four[:3], false, "ask 1, ask 2, ask 3, ask 4"},
		{4, 4, four, true, "ask 1, ask 2, ask 3, ask 4, ask end"},
		{4, 5, four, true, "ask 1, ask 2, ask 3, ask 4, ask end"},
		{4, math.MaxInt, four, true, "ask 1, ask 2, ask 3, ask 4, ask end"},
		{1, 0, nil, false, "ask 1"},
		{1, 1, four[:1], true, "ask 1, ask end"},
		{0, math.MinInt, nil, true, "ask end"},
		{0, -1, nil, true, "ask end"},
		{0, 0, nil, true, "ask end"},
		{0, 1, nil, true, "ask end"},
		{0, math.MaxInt, nil, true, "ask end"},
	} {
		tr := trace{}
		l, ok := walk.List(tr.upTo(c.n), c.most)
		if !slices.Equal(l, c.want) || ok != c.ok {
			t.Errorf("%d of %d: %v %v", c.most, c.n, l, ok)
		}
		if asked := strings.Join(tr, ", "); asked != c.asked {
			t.Errorf("%d of %d: %s instead of %s", c.most, c.n, asked, c.asked)
		}
	}
}

func TestListsAreNewMemory(t *testing.T) {
	given := []int{1, 2, 3}
	s := walk.Of(given...)
	a, _ := walk.List(s, 9)
	b, _ := walk.List(s, 2)
	clear(a[:cap(a)])
	clear(b[:cap(b)])
	if c, ok := walk.List(s, 3); !slices.Equal(c, []int{1, 2, 3}) || !ok || !slices.Equal(given, c) {
		t.Errorf("%v, %v is left of the elements", c, given)
	}
}

func TestCount(t *testing.T) {
	for _, n := range []int{0, 1, 2, 1000} {
		tr := trace{}
		if c := walk.Count(tr.upTo(n)); c != n || len(tr) != n+1 {
			t.Errorf("%d instead of %d, with %d requests", c, n, len(tr))
		}
	}
	if c := walk.Count(walk.Of("", "", "")); c != 3 {
		t.Errorf("%d", c)
	}
}

func TestFirst(t *testing.T) {
	tr := trace{}
	if v, ok := walk.First(tr.upTo(3)); v != 1 || !ok || strings.Join(tr, ", ") != "ask 1" {
		t.Errorf("%d %v, %v", v, ok, tr)
	}
	if v, ok := walk.First(tr.upTo(0)); v != 0 || ok {
		t.Errorf("%d %v of an empty walk", v, ok)
	}
	if v, ok := walk.First(walk.Of("", "a")); v != "" || !ok {
		t.Errorf("%q %v", v, ok)
	}
	if v, ok := walk.First(walk.Of[*int]()); v != nil || ok {
		t.Errorf("%v %v of no pointers", v, ok)
	}
}

func TestNilWalks(t *testing.T) {
	var s iter.Seq[int]
	var pairs iter.Seq2[string, int]
	keep := func(string, int) bool { t.Error("keep is called"); return true }
	turn := func(int) int { t.Error("turn is called"); return 0 }
	nothing(t, "Filter", texts(walk.Filter(pairs, keep)))
	nothing(t, "Filter with nil keep", texts(walk.Filter(pairs, nil)))
	nothing(t, "Map", walk.Map(s, turn))
	nothing(t, "Map with nil turn", walk.Map[int, string](s, nil))
	nothing(t, "Values", walk.Values(pairs))
	nothing(t, "Keys", walk.Keys(pairs))
	for _, n := range []int{-1, 0, 1, math.MaxInt} {
		nothing(t, "Take", walk.Take(s, n))
		nothing(t, "Skip", walk.Skip(s, n))
		if l, ok := walk.List(s, n); len(l) != 0 || !ok {
			t.Errorf("List with %d: %v %v", n, l, ok)
		}
	}
	nothing(t, "Chain", walk.Chain(s))
	if n := walk.Count(s); n != 0 {
		t.Errorf("Count: %d", n)
	}
	if v, ok := walk.First(s); v != 0 || ok {
		t.Errorf("First: %d %v", v, ok)
	}
}

// A loop within a loop over the same walk does not disturb it.
func TestLoopsWithinOneAnother(t *testing.T) {
	pairs := slices.All([]string{"a", "b", "c", "d"})
	odd := walk.Filter(pairs, func(i int, _ string) bool { return i%2 == 1 })
	for what, s := range map[string]iter.Seq[string]{
		"Filter": walk.Values(odd),
		"Map":    walk.Map(walk.Of(1, 3), func(i int) string { return string(rune('a' + i)) }),
		"Values": walk.Skip(walk.Take(walk.Chain(walk.Of("x"), walk.Values(odd)), 3), 1),
		"Keys":   walk.Map(walk.Keys(odd), func(i int) string { return string(rune('a' + i)) }),
		"Take":   walk.Take(walk.Of("b", "d", "f"), 2),
		"Skip":   walk.Skip(walk.Of("z", "b", "d"), 1),
		"Chain":  walk.Chain(walk.Of("b"), nil, walk.Of("d")),
		"Of":     walk.Of("b", "d"),
	} {
		got := ""
		for a := range s {
			for b := range s {
				got += a + b
				if l, ok := walk.List(s, 2); !slices.Equal(l, []string{"b", "d"}) || !ok {
					t.Errorf("%s: %v %v within", what, l, ok)
				}
			}
		}
		if got != "bbbddbdd" {
			t.Errorf("%s: %s", what, got)
		}
	}
}

// A walk may go on for ever, as long as no more of it is asked for than there is.
func TestWalksWithoutEnd(t *testing.T) {
	last := -1
	endless := func(yield func(int, string) bool) {
		for last = 0; yield(last, strconv.Itoa(last)); last++ {
		}
	}
	big := walk.Filter(endless, func(i int, _ string) bool { return i >= 100 })
	s := walk.Map(walk.Take(walk.Skip(walk.Values(big), 10), 3), func(s string) string { return s + "!" })
	same(t, "all of them", s, "110!", "111!", "112!")
	if last != 112 {
		t.Errorf("the last element that was asked for is %d", last)
	}
	if l, ok := walk.List(walk.Chain(walk.Keys(big), nil), 2); !slices.Equal(l, []int{100, 101}) || ok {
		t.Errorf("List: %v %v", l, ok)
	}
	if v, ok := walk.First(walk.Keys(endless)); v != 0 || !ok {
		t.Errorf("First: %d %v", v, ok)
	}
}

func TestWalksOfWalks(t *testing.T) {
	want := "ask 1, ask 2, turn 2, got 4, ask 3, turn 3, got 9"
	checkTrace(t, "Map, Take, Skip, Keys", want, func(tr *trace) iter.Seq[string] {
		return walk.Map(walk.Take(walk.Skip(walk.Keys(tr.pairsUpTo(5)), 1), 2), tr.square)
	})
	want = "ask 1, keep 1, ask 2, keep 2, got 20, ask 3, keep 3, ask 4, keep 4, got 40"
	checkTrace(t, "Take, Values, Filter", want, func(tr *trace) iter.Seq[string] {
		return walk.Take(walk.Values(walk.Filter(tr.pairsUpTo(5), tr.keeping(even))), 2)
	})
	want = "ask 1, got 1, ask 1, ask 2, ask 3, got 3, ask end, ask 1, got 1"
	checkTrace(t, "Chain, Take, Skip", want, func(tr *trace) iter.Seq[int] {
		return walk.Chain(walk.Take(tr.upTo(3), 1), walk.Skip(tr.upTo(3), 2), walk.Take(tr.upTo(1), 1), walk.Take(tr.upTo(9), 0))
	})
}

type point struct{ x, y int }

func TestTypes(t *testing.T) {
	points := walk.Of(point{1, 2}, point{3, 4})
	same(t, "structs", walk.Map(points, func(p point) float64 { return float64(p.x) / float64(p.y) }), 0.5, 0.75)
	lists := walk.Map(walk.Of(1, 2), func(n int) []int { return make([]int, n) })
	same(t, "lists", walk.Map(lists, func(l []int) int { return len(l) }), 1, 2)
	add := func(n int) func(int) int { return func(m int) int { return n + m } }
	same(t, "functions", walk.Map(walk.Of(add(1), add(5)), func(f func(int) int) int { return f(10) }), 11, 15)
	same(t, "interfaces", walk.Chain(walk.Of[any](1, "a", nil), walk.Of[any](point{1, 2})), any(1), any("a"), nil, any(point{1, 2}))
	walks := walk.Of(walk.Of(1, 2), nil, walk.Of(3))
	same(t, "walks", walk.Map(walks, walk.Count), 2, 0, 1)

	pairs := func(yield func(point, func() string) bool) {
		_ = yield(point{1, 2}, func() string { return "a" }) && yield(point{3, 4}, func() string { return "b" })
	}
	kept := walk.Filter(pairs, func(p point, f func() string) bool { return p.x == 3 && f() == "b" })
	same(t, "struct keys", walk.Keys(kept), point{3, 4})
	same(t, "function values", walk.Map(walk.Values(kept), func(f func() string) string { return f() }), "b")
	if f, ok := walk.First(walk.Values(pairs)); !ok || f() != "a" {
		t.Errorf("the first function: %v", ok)
	}
	if l, ok := walk.List(walk.Of([]byte("ab"), nil), 1); ok || len(l) != 1 || string(l[0]) != "ab" {
		t.Errorf("bytes: %v %v", l, ok)
	}
}
