package walk_test

import (
	"bytes"
	"fmt"
	"iter"
	"math/rand"
	"slices"
	"strings"
	"testing"

	"refit/tree"
	"refit/walk"
)

// of is a tree of keys, each with its index as value.
func of(keys ...string) *tree.Tree[int] {
	x := tree.New[int]()
	for i, k := range keys {
		x.Put(k, i)
	}
	return x
}

// name is a key: those of numbers up to 999 are in the order of the numbers.
func name(i int) string { return fmt.Sprintf("%03d", i) }

// awkward are keys in their order: the empty one, prefixes of one another, and bytes from 0 to 255.
func awkward() []string {
	return []string{
		"", "\x00", "\x00\x00", "\x00\xff", "\x01", "A", "a", "a\x00", "a\x00b", "a\x01", "aa", "aaa", "ab", "abc",
		"abc\xff", "abd", "ac", "a\x7f", "a\x80", "a\xfe", "a\xfe\xff", "a\xff", "a\xff\x00", "a\xffb", "a\xff\xfe",
		"a\xff\xff", "a\xff\xff\x00", "b", "z", "\x7f", "\xc3\xa4", "\xfe", "\xfe\xff", "\xff", "\xff\x00", "\xff\x7f",
		"\xff\xff", "\xff\xff\x01", "\xff\xff\xff",
	}
}

// probes are the awkward keys and such that are just behind and far behind each of them.
func probes() []string {
	var l []string
	for _, k := range awkward() {
		l = append(l, k, k+"\x00", k+"m", k+"\xff")
	}
	return l
}

// checkPairs holds a walk over the tree of(keys ..) against the keys for which in is true, also with loops that end early.
func checkPairs(t *testing.T, what string, s iter.Seq2[string, int], keys []string, in func(string) bool) {
	t.Helper()
	var want []string
	for i, k := range keys {
		if in(k) {
			want = append(want, fmt.Sprintf("%s:%d", k, i))
		}
	}
	same(t, what, texts(s), want...)
	for stop := 1; stop <= len(want); stop++ {
		var got []string
		for k, v := range s {
			got = append(got, fmt.Sprintf("%s:%d", k, v))
			if len(got) == stop {
				break
			}
		}
		if !slices.Equal(got, want[:stop]) {
			t.Errorf("%s, stopped at %d: %q", what, stop, got)
		}
	}
}

func TestBetween(t *testing.T) {
	x := of("b", "d", "f", "h", "j", "l", "n", "p", "r", "t")
	for _, c := range []struct{ from, to, want string }{
		{"", "", "b d f h j l n p r t"},
		{"", "b", ""},
		{"", "b\x00", "b"},
		{"", "c", "b"},
		{"", "t", "b d f h j l n p r"},
		{"", "u", "b d f h j l n p r t"},
		{"b", "", "b d f h j l n p r t"},
		{"b\x00", "", "d f h j l n p r t"},
		{"t", "", "t"},
		{"u", "", ""},
		{"d", "h", "d f"},
		{"c", "i", "d f h"},
		{"d", "h\x00", "d f h"},
		{"d\x00", "h", "f"},
		{"d", "e", "d"},
		{"e", "e\xff", ""},
		{"d", "d", ""},
		{"e", "e", ""},
		{"h", "d", ""},
		{"i", "c", ""},
		{"u", "a", ""},
		{"\xff", "\x00", ""},
		{"t", "\xff\xff", "t"},
	} {
		l, _ := walk.List(walk.Keys(walk.Between(x, c.from, c.to)), 99)
		if got := strings.Join(l, " "); got != c.want {
			t.Errorf("from %q to %q: %q instead of %q", c.from, c.to, got, c.want)
		}
	}
}

func TestBetweenAwkwardKeys(t *testing.T) {
	keys := awkward()
	if !slices.IsSorted(keys) {
		t.Fatal("the keys are not in their order")
	}
	x := of(keys...)
	for _, from := range probes() {
		for _, to := range probes() {
			checkPairs(t, fmt.Sprintf("from %q to %q", from, to), walk.Between(x, from, to), keys, func(k string) bool {
				return k >= from && (k < to || to == "")
			})
		}
	}
}

func TestPrefix(t *testing.T) {
	x := of("a", "a\xfe\xff", "a\xff", "a\xff\x00", "a\xffz", "a\xff\xff", "b", "b\x00", "bc", "bcd", "bd", "c", "\xfe\xff", "\xff", "\xffa", "\xff\xff")
	for _, c := range []struct{ prefix, want string }{
		{"", "a a\xfe\xff a\xff a\xff\x00 a\xffz a\xff\xff b b\x00 bc bcd bd c \xfe\xff \xff \xffa \xff\xff"},
		{"a", "a a\xfe\xff a\xff a\xff\x00 a\xffz a\xff\xff"},
		{"a\xff", "a\xff a\xff\x00 a\xffz a\xff\xff"},
		{"a\xff\xff", "a\xff\xff"},
		{"a\xff\xff\xff", ""},
		{"b", "b b\x00 bc bcd bd"},
		{"b\x00", "b\x00"},
		{"bc", "bc bcd"},
		{"bcc", ""},
		{"bcd", "bcd"},
		{"bcde", ""},
		{"c", "c"},
		{"d", ""},
		{"\xfe", "\xfe\xff"},
		{"\xff", "\xff \xffa \xff\xff"},
		{"\xff\xff", "\xff\xff"},
		{"\xff\xff\xff", ""},
		{"A", ""},
		{"\x00", ""},
	} {
		l, _ := walk.List(walk.Keys(walk.Prefix(x, c.prefix)), 99)
		if got := strings.Join(l, " "); got != c.want {
			t.Errorf("%q: %q instead of %q", c.prefix, got, c.want)
		}
	}
}

func TestPrefixAwkwardKeys(t *testing.T) {
	keys := awkward()
	x := of(keys...)
	for _, p := range probes() {
		checkPairs(t, fmt.Sprintf("%q", p), walk.Prefix(x, p), keys, func(k string) bool { return strings.HasPrefix(k, p) })
	}
}

func TestManyKeys(t *testing.T) {
	keys := make([]string, 1000)
	for i := range keys {
		keys[i] = name(i)
	}
	x := of(keys...)
	for i := 0; i < 1000; i += 37 {
		for j := 0; j < 1000; j += 41 {
			s := walk.Values(walk.Between(x, name(i), name(j)))
			if first, ok := walk.First(s); walk.Count(s) != max(j-i, 0) || ok != (i < j) || ok && first != i {
				t.Fatalf("%d keys from %d to %d, the first one of %v is %d", walk.Count(s), i, j, ok, first)
			}
		}
	}
	for i := range 100 {
		if n := walk.Count(walk.Keys(walk.Prefix(x, name(i)[1:]))); n != 10 {
			t.Fatalf("%d keys begin with %s", n, name(i)[1:])
		}
	}
}

func TestNilAndEmptyTrees(t *testing.T) {
	for what, x := range map[string]*tree.Tree[int]{"nil": nil, "empty": tree.New[int]()} {
		for _, p := range probes() {
			nothing(t, "Prefix of a tree that is "+what, texts(walk.Prefix(x, p)))
			nothing(t, "Between of a tree that is "+what, texts(walk.Between(x, p, "")))
			nothing(t, "Between of a tree that is "+what, texts(walk.Between(x, "", p)))
			nothing(t, "Between of a tree that is "+what, texts(walk.Between(x, p, p+"z")))
		}
	}
}

// A loop over a walk sees the tree as it is when the loop begins, whatever the loop does to it.
func TestChangesDuringWalks(t *testing.T) {
	changes := map[string]func(x *tree.Tree[int], at int){
		"delete it":       func(x *tree.Tree[int], at int) { x.Delete(name(at)) },
		"delete the next": func(x *tree.Tree[int], at int) { x.Delete(name(at + 2)) },
		"replace":         func(x *tree.Tree[int], at int) { x.Put(name(at), -1); x.Put(name(at+2), -1) },
		"put behind it":   func(x *tree.Tree[int], at int) { x.Put(name(at+1), -1) },
		"delete all": func(x *tree.Tree[int], at int) {
			for i := range 200 {
				x.Delete(name(i))
			}
		},
		"put everywhere": func(x *tree.Tree[int], at int) {
			for i := range 200 {
				x.Put(name(i), -at)
			}
		},
	}
	evens := func() *tree.Tree[int] {
		x := tree.New[int]()
		for i := 0; i < 200; i += 2 {
			x.Put(name(i), i)
		}
		return x
	}
	walks := map[string]func(x *tree.Tree[int]) iter.Seq2[string, int]{
		"Between":            func(x *tree.Tree[int]) iter.Seq2[string, int] { return walk.Between(x, name(100), name(200)) },
		"Between without to": func(x *tree.Tree[int]) iter.Seq2[string, int] { return walk.Between(x, name(99), "") },
		"Prefix":             func(x *tree.Tree[int]) iter.Seq2[string, int] { return walk.Prefix(x, "1") },
	}
	for how, change := range changes {
		for what, from := range walks {
			x, want := evens(), 100
			for k, v := range from(x) {
				if k != name(want) || v != want {
					t.Fatalf("%s, %s: %q %d instead of %d", what, how, k, v, want)
				}
				want += 2
				change(x, v)
			}
			if want != 200 {
				t.Errorf("%s, %s: the loop ends at %d", what, how, want)
			}
		}
	}
}

func TestChangesBetweenLoops(t *testing.T) {
	x := of("a", "b", "ba", "c")
	between, prefix := walk.Between(x, "b", "c"), walk.Prefix(x, "b")
	x.Put("bb", 9)
	x.Delete("ba")
	x.Put("c", 8)
	same(t, "Between", texts(between), "b:1", "bb:9")
	same(t, "Prefix", texts(prefix), "b:1", "bb:9")
	x.Delete("b")
	x.Delete("bb")
	nothing(t, "Between", texts(between))
	nothing(t, "Prefix", texts(prefix))
	x.Put("bc", 7)
	for k := range between {
		for k2, v2 := range prefix {
			if k != "bc" || k2 != "bc" || v2 != 7 {
				t.Errorf("%q, %q %d", k, k2, v2)
			}
			x.Delete("bc")
		}
		x.Put("bd", 6)
	}
	same(t, "Between", texts(between), "bd:6")
	same(t, "Prefix", texts(prefix), "bd:6")
}

func TestTreesOfOtherTypes(t *testing.T) {
	lists := tree.New[[]byte]()
	lists.Put("a", []byte("x"))
	lists.Put("ab", nil)
	lists.Put("b", []byte("yz"))
	length := func(l []byte) int { return len(l) }
	same(t, "Between", walk.Map(walk.Values(walk.Between(lists, "a", "b")), length), 1, 0)
	same(t, "Prefix", walk.Map(walk.Values(walk.Prefix(lists, "b")), length), 2)

	calls := tree.New[func(int) int]()
	calls.Put("double", func(n int) int { return 2 * n })
	calls.Put("next", func(n int) int { return n + 1 })
	of7 := func(f func(int) int) int { return f(7) }
	same(t, "Between", walk.Map(walk.Values(walk.Between(calls, "e", "")), of7), 8)
	same(t, "Prefix", walk.Map(walk.Values(walk.Prefix(calls, "")), of7), 14, 8)

	points := tree.New[point]()
	points.Put("p", point{1, 2})
	points.Put("q", point{3, 4})
	same(t, "Between", walk.Values(walk.Between(points, "", "q")), point{1, 2})
	same(t, "Prefix", walk.Values(walk.Prefix(points, "q")), point{3, 4})
}

// checkDiff holds the three lists of a Diff against texts, with a blank between the keys.
func checkDiff[V any](t *testing.T, what string, a, b *tree.Tree[V], equal func(V, V) bool, gone, fresh, changed string) {
	t.Helper()
	for range 2 {
		g, f, c := walk.Diff(a, b, equal)
		if strings.Join(g, " ") != gone || strings.Join(f, " ") != fresh || strings.Join(c, " ") != changed {
			t.Errorf("%s: %q, %q and %q instead of %q, %q and %q", what, g, f, c, gone, fresh, changed)
		}
	}
}

func equal(a, b int) bool { return a == b }

func never(a, b int) bool { return false }

func TestDiff(t *testing.T) {
	a := of("a", "b", "c", "d", "e")
	b := a.Copy()
	checkDiff(t, "with itself", a, a, equal, "", "", "")
	checkDiff(t, "with its copy", a, b, equal, "", "", "")
	b.Delete("b")
	b.Delete("e")
	b.Put("aa", 1)
	b.Put("", 4)
	b.Put("z", 4)
	b.Put("d", 9)
	b.Put("a", 9)
	b.Put("c", 2)
	checkDiff(t, "with a changed copy", a, b, equal, "b e", " aa z", "a d")
	checkDiff(t, "of a changed copy", b, a, equal, " aa z", "b e", "a d")
	checkDiff(t, "nothing is the same", a, b, never, "b e", " aa z", "a c d")
	checkDiff(t, "everything is the same", a, b, func(int, int) bool { return true }, "b e", " aa z", "")
	checkDiff(t, "nil", a, b, nil, "b e", " aa z", "")
	checkDiff(t, "the original", a, of("a", "b", "c", "d", "e"), equal, "", "", "")
	checkDiff(t, "no common keys", a, of("b0", "c0", "x"), never, "a b c d e", "b0 c0 x", "")
	checkDiff(t, "one tree within the other", a, of("a", "b"), equal, "c d e", "", "")
	checkDiff(t, "one tree within the other", of("a", "b"), a, equal, "", "c d e", "")
}

func TestDiffOfNilAndEmptyTrees(t *testing.T) {
	var missing *tree.Tree[int]
	x := of("a", "b")
	for _, compare := range []func(int, int) bool{nil, equal, never} {
		for what, empty := range map[string]*tree.Tree[int]{"nil": missing, "empty": tree.New[int]()} {
			checkDiff(t, what, empty, empty, compare, "", "", "")
			checkDiff(t, what, empty, missing, compare, "", "", "")
			checkDiff(t, what, missing, empty, compare, "", "", "")
			checkDiff(t, what, x, empty, compare, "a b", "", "")
			checkDiff(t, what, empty, x, compare, "", "a b", "")
		}
	}
}

// The lists are of keys alone: the value of a key may be the zero one.
func TestDiffOfOtherTypes(t *testing.T) {
	a, b := tree.New[[]byte](), tree.New[[]byte]()
	a.Put("gone", nil)
	b.Put("fresh", nil)
	a.Put("equal", []byte("x"))
	b.Put("equal", []byte("x"))
	a.Put("nil", nil)
	b.Put("nil", []byte{})
	a.Put("other", []byte("x"))
	b.Put("other", nil)
	checkDiff(t, "bytes", a, b, bytes.Equal, "gone", "fresh", "other")
	checkDiff(t, "nil", a, b, nil, "gone", "fresh", "")

	c, d := tree.New[point](), tree.New[point]()
	c.Put("p", point{1, 2})
	d.Put("p", point{1, 3})
	checkDiff(t, "structs", c, d, func(p, q point) bool { return p == q }, "", "", "p")
	checkDiff(t, "structs", c, d, func(p, q point) bool { return p.x == q.x }, "", "", "")
}

func TestDiffListsShareNoMemory(t *testing.T) {
	a, b := tree.New[int](), tree.New[int]()
	for i := range 300 {
		if i%3 != 0 {
			a.Put(name(i), 0)
		}
		if i%3 != 1 {
			b.Put(name(i), 1)
		}
	}
	lists := func() [3][]string {
		gone, fresh, changed := walk.Diff(a, b, equal)
		return [3][]string{fresh, gone, changed}
	}
	for which := range 3 {
		l := lists()
		clear(l[which][:cap(l[which])])
		for i := range 3 {
			if i != which && (len(l[i]) != 100 || l[i][0] != name(i) || l[i][99] != name(297+i)) {
				t.Errorf("what is written into list %d is in list %d", which, i)
			}
		}
	}
	if l := lists(); l[0][0] != name(0) || l[1][0] != name(1) || l[2][0] != name(2) {
		t.Errorf("%q, %q and %q behind what was written", l[0][0], l[1][0], l[2][0])
	}
}

func TestDiffChangesNothing(t *testing.T) {
	a, b := of("a", "b", "c"), of("b", "c", "d")
	walk.Diff(a, b, equal)
	same(t, "the first tree", texts(walk.Between(a, "", "")), "a:0", "b:1", "c:2")
	same(t, "the second tree", texts(walk.Between(b, "", "")), "b:0", "c:1", "d:2")
}

// Diff compares the trees as they are when it is called, also if same changes them.
func TestDiffWithChanges(t *testing.T) {
	a, b := of("a", "b", "c", "d"), of("b", "c", "d", "e")
	g, f, c := walk.Diff(a, b, func(int, int) bool {
		for _, key := range []string{"a", "b", "c", "d", "e"} {
			a.Delete(key)
			b.Delete(key)
		}
		a.Put("x", 1)
		b.Put("y", 1)
		return false
	})
	if !slices.Equal(g, []string{"a"}) || !slices.Equal(f, []string{"e"}) || !slices.Equal(c, []string{"b", "c", "d"}) {
		t.Errorf("%q, %q and %q", g, f, c)
	}
	checkDiff(t, "afterwards", a, b, equal, "x", "y", "")
}

func TestRandomDiffs(t *testing.T) {
	r := rand.New(rand.NewSource(9))
	for range 300 {
		a := tree.New[int]()
		size := 1 + r.Intn(200)
		for range r.Intn(2 * size) {
			a.Put(name(r.Intn(size)), r.Intn(3))
		}
		b := a.Copy()
		for range r.Intn(size) {
			if key := name(r.Intn(size)); r.Intn(2) == 0 {
				b.Delete(key)
			} else {
				b.Put(key, r.Intn(3))
			}
		}
		var gone, fresh, changed []string
		for i := range size {
			v, inA := a.Get(name(i))
			w, inB := b.Get(name(i))
			switch {
			case inA && !inB:
				gone = append(gone, name(i))
			case inB && !inA:
				fresh = append(fresh, name(i))
			case v != w:
				changed = append(changed, name(i))
			}
		}
		checkDiff(t, "random trees", a, b, equal, strings.Join(gone, " "), strings.Join(fresh, " "), strings.Join(changed, " "))
	}
}
