package tree_test

import (
	"fmt"
	"iter"
	"math"
	"math/rand"
	"slices"
	"strconv"
	"strings"
	"testing"

	"refit/tree"
)

type pair[V any] struct {
	key   string
	value V
}

// all is what an iterator yields.
func all[V any](s iter.Seq2[string, V]) []pair[V] {
	var l []pair[V]
	for k, v := range s {
		l = append(l, pair[V]{k, v})
	}
	return l
}

// keysOf are the keys that an iterator yields, with a blank between them.
func keysOf[V any](s iter.Seq2[string, V]) string {
	var l []string
	for k := range s {
		l = append(l, k)
	}
	return strings.Join(l, " ")
}

func of(keys ...string) *tree.Tree[int] {
	x := tree.New[int]()
	for i, k := range keys {
		x.Put(k, i)
	}
	return x
}

// name is a key: those of numbers up to 999 are in the order of the numbers.
func name(i int) string { return fmt.Sprintf("%03d", i) }

// evens is a tree of n keys, the names of 0, 2, 4 and so on, each with its number as value.
func evens(n int) *tree.Tree[int] {
	x := tree.New[int]()
	for i := range n {
		x.Put(name(2*i), 2*i)
	}
	return x
}

// wanted are the keys and values of evens(n).
func wanted(n int) map[string]int {
	m := map[string]int{}
	for i := range n {
		m[name(2*i)] = 2 * i
	}
	return m
}

func reversed[E any](l []E) []E {
	l = slices.Clone(l)
	slices.Reverse(l)
	return l
}

// orders are the keys ascending, descending and mixed.
func orders(keys []string) map[string][]string {
	up := slices.Clone(keys)
	slices.Sort(up)
	mixed := slices.Clone(up)
	rand.New(rand.NewSource(int64(len(keys)))).Shuffle(len(mixed), func(i, j int) {
		mixed[i], mixed[j] = mixed[j], mixed[i]
	})
	return map[string][]string{"ascending": up, "descending": reversed(up), "mixed": mixed}
}

// awkward are keys in their order: the empty one, prefixes of one another, and bytes from 0 to 255.
func awkward() []string {
	return []string{
		"", "\x00", "\x00\x00", "\x00\x01", "\x00\xff", "\x01", "A", "Z", "a", "a\x00", "a\x00b", "a\x01", "aa", "aaa",
		"ab", "abc", "abc\xff", "abd", "ac", "a\x7f", "a\x80", "a\xff", "b", "z", "\x7f", "\x80", "\x80\x00", "\xc3",
		"\xc3\xa4", "\xc3\xbf", "\xe2\x82\xac", "\xfe", "\xff", "\xff\x00", "\xff\x7f", "\xff\x80", "\xff\xff", "\xff\xff\xff",
	}
}

// mostLevels is 1 plus the least k with 4^k at least n.
func mostLevels(n int) int {
	levels := 1
	for power := 1; power < n; power *= 4 {
		levels++
	}
	return levels
}

func checkLevels(t *testing.T, levels, keys int) {
	t.Helper()
	if keys == 0 && levels != 0 || keys >= 1 && keys <= 7 && levels != 1 || keys > 0 && levels > mostLevels(keys) {
		t.Fatalf("%d levels of %d keys", levels, keys)
	}
	room := 1
	for range levels {
		room *= 8
	}
	if keys > 0 && room < keys {
		t.Fatalf("%d levels of nodes with up to 8 have no room for %d keys", levels, keys)
	}
}

// checkTree holds every answer of x against those of a sorted list, for each of its keys and for others.
func checkTree[V comparable](t *testing.T, x *tree.Tree[V], want map[string]V, others ...string) {
	t.Helper()
	var sorted []pair[V]
	for k, v := range want {
		sorted = append(sorted, pair[V]{k, v})
	}
	slices.SortFunc(sorted, func(a, b pair[V]) int { return strings.Compare(a.key, b.key) })
	if x.Len() != len(sorted) {
		t.Fatalf("%d keys instead of %d", x.Len(), len(sorted))
	}
	checkLevels(t, x.Levels(), len(sorted))
	checkAt(t, x, sorted)
	for _, p := range sorted {
		checkKey(t, x, sorted, p.key)
	}
	for _, key := range others {
		checkKey(t, x, sorted, key)
	}
}

func checkAt[V comparable](t *testing.T, x *tree.Tree[V], sorted []pair[V]) {
	t.Helper()
	for i, p := range sorted {
		if k, v, ok := x.At(i); k != p.key || v != p.value || !ok {
			t.Fatalf("At(%d) is %q %v %v", i, k, v, ok)
		}
	}
	n := len(sorted)
	var zero V
	for _, i := range []int{math.MinInt, -n, -2, -1, n, n + 1, 2*n + 8, math.MaxInt} {
		if i >= 0 && i < n {
			continue
		}
		if k, v, ok := x.At(i); k != "" || v != zero || ok {
			t.Fatalf("At(%d) of %d is %q %v %v", i, n, k, v, ok)
		}
	}
}

func checkKey[V comparable](t *testing.T, x *tree.Tree[V], sorted []pair[V], key string) {
	t.Helper()
	rank, present := slices.BinarySearchFunc(sorted, key, func(p pair[V], key string) int { return strings.Compare(p.key, key) })
	end := rank
	var value V
	if present {
		end++
		value = sorted[rank].value
	}
	if v, ok := x.Get(key); v != value || ok != present {
		t.Fatalf("Get(%q) is %v %v", key, v, ok)
	}
	if r := x.Rank(key); r != rank {
		t.Fatalf("Rank(%q) is %d instead of %d", key, r, rank)
	}
	if l := all(x.From(key)); !slices.Equal(l, sorted[rank:]) {
		t.Fatalf("From(%q) yields %v instead of %v", key, l, sorted[rank:])
	}
	if l := all(x.Back(key)); !slices.Equal(l, reversed(sorted[:end])) {
		t.Fatalf("Back(%q) yields %v instead of %v", key, l, reversed(sorted[:end]))
	}
}

func TestExample(t *testing.T) {
	x := of("b", "a", "c")
	if s := keysOf(x.From("b")); s != "b c" {
		t.Errorf("From yields %s", s)
	}
	if s := keysOf(x.Back("b")); s != "b a" {
		t.Errorf("Back yields %s", s)
	}
	if r := x.Rank("c"); r != 2 {
		t.Errorf("Rank is %d", r)
	}
}

func TestEmpty(t *testing.T) {
	x := tree.New[int]()
	if x == nil {
		t.Fatal("no tree")
	}
	checkTree(t, x, nil, awkward()...)
	for _, key := range awkward() {
		if x.Delete(key) {
			t.Errorf("Delete(%q) is true", key)
		}
	}
	checkTree(t, x, nil, awkward()...)
	if y := tree.New[int](); y == x {
		t.Error("New returns a tree twice")
	}
}

func TestOneKey(t *testing.T) {
	for _, key := range awkward() {
		x := tree.New[int]()
		if !x.Put(key, 7) {
			t.Fatalf("Put(%q) is false", key)
		}
		checkTree(t, x, map[string]int{key: 7}, awkward()...)
		if !x.Delete(key) {
			t.Fatalf("Delete(%q) is false", key)
		}
		checkTree(t, x, nil, awkward()...)
		if x.Delete(key) {
			t.Fatalf("Delete(%q) is true twice", key)
		}
		if !x.Put(key, 8) {
			t.Fatalf("Put(%q) is false behind Delete", key)
		}
		checkTree(t, x, map[string]int{key: 8}, awkward()...)
	}
}

// checkOrder puts the keys in one order and deletes them in another one.
func checkOrder(t *testing.T, puts, deletes, others []string, every int) {
	t.Helper()
	x, want := tree.New[int](), map[string]int{}
	for i, key := range puts {
		if !x.Put(key, i) {
			t.Fatalf("Put(%q) is false", key)
		}
		want[key] = i
		if x.Len() != len(want) {
			t.Fatalf("%d keys instead of %d", x.Len(), len(want))
		}
		checkLevels(t, x.Levels(), len(want))
		if i%every == 0 {
			checkTree(t, x, want, others...)
		}
	}
	checkTree(t, x, want, others...)
	for i, key := range deletes {
		if !x.Delete(key) || x.Delete(key) {
			t.Fatalf("Delete(%q) is false, or true twice", key)
		}
		delete(want, key)
		if x.Len() != len(want) {
			t.Fatalf("%d keys instead of %d", x.Len(), len(want))
		}
		checkLevels(t, x.Levels(), len(want))
		if i%every == 0 {
			checkTree(t, x, want, others...)
		}
	}
	checkTree(t, x, nil, others...)
}

func TestOrders(t *testing.T) {
	for _, n := range []int{1, 2, 3, 7, 8, 9, 15, 16, 17, 64, 65, 400} {
		keys, others := make([]string, n), []string{"", "~"}
		for i := range keys {
			keys[i] = name(2*i + 1)
			others = append(others, name(2*i))
		}
		for in, puts := range orders(keys) {
			for out, deletes := range orders(keys) {
				t.Run(fmt.Sprintf("%d %s %s", n, in, out), func(t *testing.T) {
					checkOrder(t, puts, deletes, others, 1+n*n/1000)
				})
			}
		}
	}
}

func TestAwkwardKeys(t *testing.T) {
	keys := awkward()
	if !slices.IsSorted(keys) {
		t.Fatal("the keys are not in their order")
	}
	var others []string
	for _, key := range keys {
		others = append(others, key+"\x00", key+"m", key+"\xff")
	}
	for in, puts := range orders(keys) {
		for out, deletes := range orders(keys) {
			t.Run(in+" "+out, func(t *testing.T) { checkOrder(t, puts, deletes, others, 1) })
		}
	}
}

func TestLongKeys(t *testing.T) {
	var keys []string
	for i := range 40 {
		keys = append(keys, strings.Repeat("a", 1000+i), strings.Repeat("a", 1000)+strconv.Itoa(i))
	}
	for _, l := range orders(keys) {
		checkOrder(t, l, reversed(l), []string{"a", "b", strings.Repeat("a", 2000)}, 7)
	}
}

func TestEveryByte(t *testing.T) {
	x, want := tree.New[int](), map[string]int{}
	for i := range 256 {
		b := byte(i*83 + 5)
		x.Put(string([]byte{b}), i)
		want[string([]byte{b})] = i
	}
	checkTree(t, x, want)
}

func TestPutOfPresentKeys(t *testing.T) {
	for _, n := range []int{1, 7, 8, 9, 300} {
		x, want := evens(n), wanted(n)
		levels := x.Levels()
		for i := range n {
			key := name(2 * i)
			if x.Put(key, -i) || x.Put(key, -i) {
				t.Fatalf("Put(%q) is true", key)
			}
			want[key] = -i
			if v, ok := x.Get(key); v != -i || !ok || x.Len() != n || x.Levels() != levels {
				t.Fatalf("%q: %d %v, with %d keys in %d levels", key, v, ok, x.Len(), x.Levels())
			}
		}
		checkTree(t, x, want, "", "001", "~")
	}
}

func TestDeleteOfAbsentKeys(t *testing.T) {
	for _, n := range []int{1, 7, 8, 9, 300} {
		x, want := evens(n), wanted(n)
		levels := x.Levels()
		for i := range n {
			for _, key := range []string{name(2*i + 1), name(2*i) + "\x00", name(2 * i)[:2], "", "~"} {
				if x.Delete(key) || x.Len() != n || x.Levels() != levels {
					t.Fatalf("Delete(%q), with %d keys in %d levels", key, x.Len(), x.Levels())
				}
			}
		}
		checkTree(t, x, want, "", "001", "~")
	}
}

func TestFromAndBack(t *testing.T) {
	x := of("b", "d", "f", "h", "j", "l", "n", "p", "r", "t")
	for _, c := range []struct{ key, from, back string }{
		{"", "b d f h j l n p r t", ""},
		{"a", "b d f h j l n p r t", ""},
		{"b", "b d f h j l n p r t", "b"},
		{"b\x00", "d f h j l n p r t", "b"},
		{"c", "d f h j l n p r t", "b"},
		{"j", "j l n p r t", "j h f d b"},
		{"k", "l n p r t", "j h f d b"},
		{"s", "t", "r p n l j h f d b"},
		{"t", "t", "t r p n l j h f d b"},
		{"t\x00", "", "t r p n l j h f d b"},
		{"u", "", "t r p n l j h f d b"},
		{"\xff", "", "t r p n l j h f d b"},
	} {
		if s := keysOf(x.From(c.key)); s != c.from {
			t.Errorf("From(%q) yields %s", c.key, s)
		}
		if s := keysOf(x.Back(c.key)); s != c.back {
			t.Errorf("Back(%q) yields %s", c.key, s)
		}
	}
}

// stopped calls an iterator with a loop that ends behind so many elements, and returns how often it is called.
func stopped(s iter.Seq2[string, int], behind int) int {
	calls := 0
	s(func(string, int) bool {
		calls++
		return calls < behind
	})
	return calls
}

func TestLoopsThatEndEarly(t *testing.T) {
	for _, n := range []int{1, 7, 8, 9, 90} {
		x := evens(n)
		for behind := 1; behind <= n; behind++ {
			if c := stopped(x.From(""), behind); c != behind {
				t.Errorf("From of %d keys goes on to %d behind %d", n, c, behind)
			}
			if c := stopped(x.Back("~"), behind); c != behind {
				t.Errorf("Back of %d keys goes on to %d behind %d", n, c, behind)
			}
		}
		for i := range n {
			for k, v := range x.From(name(2 * i)) {
				if k != name(2*i) || v != 2*i {
					t.Errorf("From begins with %q %d", k, v)
				}
				break
			}
			for k, v := range x.Back(name(2 * i)) {
				if k != name(2*i) || v != 2*i {
					t.Errorf("Back begins with %q %d", k, v)
				}
				break
			}
		}
		if l := all(x.From("")); len(l) != n {
			t.Errorf("%d of %d keys behind loops that ended", len(l), n)
		}
	}
}

// An iteration yields the tree as it was, whatever happens behind it and ahead of it.
func TestChangesDuringIterations(t *testing.T) {
	changes := map[string]func(x *tree.Tree[int], at int){
		"delete it":         func(x *tree.Tree[int], at int) { x.Delete(name(2 * at)) },
		"delete the next":   func(x *tree.Tree[int], at int) { x.Delete(name(2*at + 2)) },
		"delete the former": func(x *tree.Tree[int], at int) { x.Delete(name(2*at - 2)) },
		"delete far off":    func(x *tree.Tree[int], at int) { x.Delete(name((2*at + 60) % 120)) },
		"delete all": func(x *tree.Tree[int], at int) {
			for i := range 120 {
				x.Delete(name(i))
			}
		},
		"replace it":      func(x *tree.Tree[int], at int) { x.Put(name(2*at), -1) },
		"replace others":  func(x *tree.Tree[int], at int) { x.Put(name(2*at+2), -1); x.Put(name(2*at-2), -1) },
		"put behind it":   func(x *tree.Tree[int], at int) { x.Put(name(2*at+1), -1) },
		"put ahead of it": func(x *tree.Tree[int], at int) { x.Put(name(2*at-1), -1) },
		"put at the ends": func(x *tree.Tree[int], at int) { x.Put("~"+name(at), -1); x.Put("!"+name(at), -1) },
		"put everywhere": func(x *tree.Tree[int], at int) {
			for i := range 120 {
				x.Put(name(i), -at)
			}
		},
	}
	want := all(evens(60).From(""))
	for what, change := range changes {
		t.Run(what, func(t *testing.T) {
			x, got := evens(60), []pair[int](nil)
			for k, v := range x.From("") {
				got = append(got, pair[int]{k, v})
				change(x, v/2)
			}
			if !slices.Equal(got, want) {
				t.Errorf("From yields %v", got)
			}
			x, got = evens(60), nil
			for k, v := range x.Back("~~") {
				got = append(got, pair[int]{k, v})
				change(x, v/2)
			}
			if !slices.Equal(got, reversed(want)) {
				t.Errorf("Back yields %v", got)
			}
		})
	}
}

// What an iteration does to the tree is there for everybody else at once.
func TestChangesAreSeenBesidesTheIteration(t *testing.T) {
	x, i := evens(50), 0
	for k := range x.From("") {
		x.Delete(k)
		x.Put("x"+k, i)
		i++
		if _, ok := x.Get(k); ok || x.Len() != 50 {
			t.Fatalf("%q is still there, with %d keys", k, x.Len())
		}
		first, _, _ := x.At(0)
		if l := all(x.From("")); len(l) != 50 || l[0].key != first || i < 50 && first != name(2*i) {
			t.Fatalf("an iteration within that of %q begins with %q", k, l[0].key)
		}
	}
	if i != 50 || x.Rank("x") != 0 {
		t.Errorf("%d keys, and %d of the old ones are left", i, x.Rank("x"))
	}
}

func TestIterationsBegunLater(t *testing.T) {
	x := of("b", "d")
	up, down := x.From("b"), x.Back("c")
	x.Put("c", 2)
	x.Put("a", 3)
	x.Delete("d")
	x.Put("b", 9)
	if l := all(up); !slices.Equal(l, []pair[int]{{"b", 9}, {"c", 2}}) {
		t.Errorf("From yields %v", l)
	}
	if l := all(down); !slices.Equal(l, []pair[int]{{"c", 2}, {"b", 9}, {"a", 3}}) {
		t.Errorf("Back yields %v", l)
	}
	empty := tree.New[int]()
	up, down = empty.From(""), empty.Back("~")
	empty.Put("a", 1)
	if l := all(up); !slices.Equal(l, []pair[int]{{"a", 1}}) {
		t.Errorf("From of a tree that was empty yields %v", l)
	}
	if l := all(down); !slices.Equal(l, []pair[int]{{"a", 1}}) {
		t.Errorf("Back of a tree that was empty yields %v", l)
	}
	empty.Delete("a")
	if l := append(all(up), all(down)...); len(l) != 0 {
		t.Errorf("of a tree that is empty: %v", l)
	}
}

func TestIteratorsRangedOverTwice(t *testing.T) {
	x := evens(40)
	up, down := x.From("020"), x.Back("020")
	if a, b := all(up), all(up); len(a) != 30 || !slices.Equal(a, b) {
		t.Errorf("From yields %v and %v", a, b)
	}
	if a, b := all(down), all(down); len(a) != 11 || !slices.Equal(a, b) {
		t.Errorf("Back yields %v and %v", a, b)
	}
	for range up {
		break
	}
	for range down {
		break
	}
	x.Put("020x", 1)
	x.Delete("020")
	x.Delete("000")
	if l := all(up); len(l) != 30 || l[0] != (pair[int]{"020x", 1}) {
		t.Errorf("From yields %v", l)
	}
	if l := all(down); len(l) != 9 || l[0].key != "018" || l[8].key != "002" {
		t.Errorf("Back yields %v", l)
	}
}

// Two iterations of one iterator, one within the other, do not disturb each other.
func TestIterationsWithinOneAnother(t *testing.T) {
	x := evens(20)
	up, n := x.From("004"), 0
	for range up {
		for range up {
			n++
		}
		for range x.Back("004") {
			n++
		}
	}
	if n != 18*18+18*3 {
		t.Errorf("%d elements", n)
	}
}

// A tree may change while an iteration waits, also before that has begun.
func TestIterationsThatWait(t *testing.T) {
	x := evens(30)
	next, stop := iter.Pull2(x.From("010"))
	defer stop()
	x.Delete("010")
	for i := 12; i < 60; i += 2 {
		if k, v, ok := next(); k != name(i) || v != i || !ok {
			t.Fatalf("%q %d %v instead of %d", k, v, ok, i)
		}
		x.Delete(name(i + 2))
		x.Put(name(i+1), i)
	}
	if _, _, ok := next(); ok {
		t.Error("too many elements")
	}
}

func TestAt(t *testing.T) {
	for _, n := range []int{0, 1, 7, 8, 9, 300} {
		x := evens(n)
		for i := range n {
			if k, v, ok := x.At(i); k != name(2*i) || v != 2*i || !ok {
				t.Fatalf("At(%d) of %d is %q %d %v", i, n, k, v, ok)
			}
		}
		for _, i := range []int{math.MinInt, -n, -1, n, n + 1, math.MaxInt} {
			if k, v, ok := x.At(i); i != 0 && (k != "" || v != 0 || ok) {
				t.Errorf("At(%d) of %d is %q %d %v", i, n, k, v, ok)
			}
		}
	}
	if k, v, ok := tree.New[int]().At(0); k != "" || v != 0 || ok {
		t.Errorf("At(0) of an empty tree is %q %d %v", k, v, ok)
	}
}

func TestRank(t *testing.T) {
	for _, n := range []int{0, 1, 7, 8, 9, 300} {
		x := evens(n)
		for i := range n {
			if r := x.Rank(name(2 * i)); r != i {
				t.Fatalf("Rank of the key %d of %d is %d", i, n, r)
			}
			if r := x.Rank(name(2*i + 1)); r != i+1 {
				t.Fatalf("Rank behind the key %d of %d is %d", i, n, r)
			}
		}
		if a, b := x.Rank(""), x.Rank("\xff"); a != 0 || b != n {
			t.Errorf("Ranks of %d keys are %d and %d", n, a, b)
		}
	}
}

func TestLevels(t *testing.T) {
	keys := make([]string, 1000)
	for i := range keys {
		keys[i] = name(i)
	}
	for what, l := range orders(keys) {
		x := tree.New[int]()
		if x.Levels() != 0 {
			t.Errorf("%d levels of an empty tree", x.Levels())
		}
		for i, key := range l {
			x.Put(key, i)
			checkLevels(t, x.Levels(), i+1)
		}
		for i, key := range l {
			x.Delete(key)
			checkLevels(t, x.Levels(), len(keys)-1-i)
		}
		if x.Levels() != 0 {
			t.Errorf("%d levels, %s, with nothing left", x.Levels(), what)
		}
	}
}

func TestCopyOfAnEmptyTree(t *testing.T) {
	x := tree.New[int]()
	y := x.Copy()
	if y == nil || y == x {
		t.Fatal("no copy")
	}
	x.Put("a", 1)
	checkTree(t, y, nil, "", "a")
	y.Put("b", 2)
	checkTree(t, x, map[string]int{"a": 1}, "", "b")
	checkTree(t, y, map[string]int{"b": 2}, "", "a")
	x.Delete("a")
	z := x.Copy()
	y.Delete("b")
	z.Put("c", 3)
	checkTree(t, x, nil, "a", "b", "c")
	checkTree(t, y, nil, "a", "b", "c")
	checkTree(t, z, map[string]int{"c": 3}, "a", "b")
}

func TestCopyOfAGreatTree(t *testing.T) {
	changes := map[string]func(x *tree.Tree[int]){
		"delete all": func(x *tree.Tree[int]) {
			for i := range 300 {
				x.Delete(name(2 * i))
			}
		},
		"delete some": func(x *tree.Tree[int]) {
			for i := range 100 {
				x.Delete(name(6 * i))
			}
		},
		"replace all": func(x *tree.Tree[int]) {
			for i := range 300 {
				x.Put(name(2*i), -1)
			}
		},
		"put more": func(x *tree.Tree[int]) {
			for i := range 300 {
				x.Put(name(599-2*i), -1)
			}
		},
	}
	for what, change := range changes {
		t.Run(what, func(t *testing.T) {
			x := evens(300)
			y := x.Copy()
			checkTree(t, y, wanted(300))
			change(x)
			checkTree(t, y, wanted(300), "001", "599")
			z := y.Copy()
			change(y)
			checkTree(t, z, wanted(300), "001", "599")
			if !slices.Equal(all(x.From("")), all(y.From(""))) {
				t.Error("the same changes of the tree and of its copy differ")
			}
			if slices.Equal(all(y.From("")), all(z.From(""))) {
				t.Error("nothing has changed")
			}
		})
	}
}

// One change of a tree of each size and of its copy, at each place: no change is seen in the other one.
func TestOneChangeOfACopy(t *testing.T) {
	for n := range 40 {
		for i := range 2*n + 1 {
			x := evens(n)
			y := x.Copy()
			x.Put(name(i), -1)
			checkTree(t, y, wanted(n))
			y.Delete(name(i))
			want := wanted(n)
			want[name(i)] = -1
			checkTree(t, x, want)
			want = wanted(n)
			delete(want, name(i))
			checkTree(t, y, want)
		}
	}
}

// Trees that part at one node put different keys to its end.
func TestCopiesThatGrowAtOnePlace(t *testing.T) {
	for n := range 30 {
		x := evens(n)
		a, b := x.Copy(), x.Copy()
		for i := range 10 {
			a.Put("a"+name(i), i)
			b.Put("b"+name(i), -i)
		}
		want, other := wanted(n), wanted(n)
		for i := range 10 {
			want["a"+name(i)], other["b"+name(i)] = i, -i
		}
		checkTree(t, x, wanted(n), "a000", "b000")
		checkTree(t, a, want, "b000")
		checkTree(t, b, other, "a000")
	}
}

func TestCopiesOfCopies(t *testing.T) {
	trees := []*tree.Tree[int]{tree.New[int]()}
	for i := range 100 {
		y := trees[i].Copy()
		y.Put(name(2*i), 2*i)
		trees = append(trees, y)
	}
	for i, x := range trees {
		checkTree(t, x, wanted(i), name(2*i))
	}
	for i := range 100 {
		y := trees[100+i].Copy()
		y.Delete(name(2*99 - 2*i))
		trees = append(trees, y)
	}
	for i, x := range trees {
		checkTree(t, x, wanted(100-max(i-100, 100-i)), name(2*i))
	}
}

// A copy costs no more for a great tree than for an empty one.
func TestCopyAtNoCost(t *testing.T) {
	x := evens(1000)
	if n := testing.AllocsPerRun(10, func() { x.Copy() }); n > 1 {
		t.Errorf("%v allocations", n)
	}
}

func TestIterationsOverACopy(t *testing.T) {
	x := evens(60)
	n := 0
	for k := range x.Copy().From("") {
		x.Delete(k)
		n++
	}
	y := evens(60)
	for k, v := range y.From("") {
		z := y.Copy()
		z.Delete(k)
		n += v - z.Len() + 59
	}
	if n != 60+60*59 || x.Len() != 0 || y.Len() != 60 {
		t.Errorf("%d, %d keys and %d", n, x.Len(), y.Len())
	}
}

func checkValues[V comparable](t *testing.T, values ...V) {
	t.Helper()
	var zero V
	x, want := tree.New[V](), map[string]V{}
	for i, v := range append(values, zero) {
		for k := range 10 {
			key := name(10*k + i)
			if !x.Put(key, v) {
				t.Fatalf("Put(%q) of %v is false", key, v)
			}
			want[key] = v
		}
	}
	checkTree(t, x, want, "", "~")
	for key := range want {
		if x.Put(key, zero) {
			t.Fatalf("Put(%q) of the zero value is true", key)
		}
		want[key] = zero
	}
	checkTree(t, x, want, "", "~")
	for key := range want {
		if !x.Delete(key) {
			t.Fatalf("Delete(%q) of the zero value is false", key)
		}
	}
	checkTree(t, x, nil, "", "~")
}

func TestValuesOfSeveralTypes(t *testing.T) {
	type point struct{ x, y int }
	checkValues(t, 1, -1, math.MaxInt)
	checkValues(t, "a", "b\x00")
	checkValues(t, true, false)
	checkValues(t, point{1, 2}, point{2, 1})
	checkValues(t, [2]string{"a", "b"})
	checkValues(t, new(int), new(int))
	checkValues[any](t, 1, "1", point{1, 1})
	checkValues[error](t, fmt.Errorf("x"))
	checkValues(t, struct{}{})
	checkValues(t, tree.New[string](), nil)
	checkValues(t, 1.5, -0.25)
}

func TestValuesThatCannotBeCompared(t *testing.T) {
	lists := tree.New[[]int]()
	for i := range 50 {
		lists.Put(name(i), make([]int, i))
	}
	lists.Put("nil", nil)
	for i := range 50 {
		if l, ok := lists.Get(name(i)); len(l) != i || !ok {
			t.Errorf("the list of %d is %d %v", i, l, ok)
		}
	}
	if l, ok := lists.Get("nil"); l != nil || !ok {
		t.Errorf("the nil list is %d %v", l, ok)
	}
	if l, ok := lists.Get("none"); l != nil || ok {
		t.Errorf("no list is %d %v", l, ok)
	}
	functions := tree.New[func() int]()
	functions.Put("a", func() int { return 7 })
	if f, ok := functions.Get("a"); !ok || f() != 7 {
		t.Error("the function is another one")
	}
	maps := tree.New[map[string]int]()
	maps.Put("a", map[string]int{"b": 1})
	if _, m, ok := maps.At(0); !ok || m["b"] != 1 {
		t.Error("the map is another one")
	}
}

// The bytes that a key was made of may change.
func TestKeysAreTheirOwn(t *testing.T) {
	x, b := tree.New[int](), []byte("000")
	for i := range 100 {
		copy(b, name(2*i))
		x.Put(string(b), 2*i)
	}
	checkTree(t, x, wanted(100))
}

func TestNil(t *testing.T) {
	var x *tree.Tree[int]
	for _, key := range []string{"", "a", "\xff"} {
		if x.Put(key, 1) {
			t.Errorf("Put(%q) is true", key)
		}
		if v, ok := x.Get(key); v != 0 || ok {
			t.Errorf("Get(%q) is %d %v", key, v, ok)
		}
		if x.Delete(key) {
			t.Errorf("Delete(%q) is true", key)
		}
		if r := x.Rank(key); r != 0 {
			t.Errorf("Rank(%q) is %d", key, r)
		}
		if x.From(key) == nil || x.Back(key) == nil {
			t.Fatalf("no iterator from %q", key)
		}
		if l := append(all(x.From(key)), all(x.Back(key))...); len(l) != 0 {
			t.Errorf("%v from %q", l, key)
		}
	}
	if x.Len() != 0 || x.Levels() != 0 || x.Copy() != nil {
		t.Errorf("Len is %d, Levels is %d", x.Len(), x.Levels())
	}
	for _, i := range []int{math.MinInt, -1, 0, 1, math.MaxInt} {
		if k, v, ok := x.At(i); k != "" || v != 0 || ok {
			t.Errorf("At(%d) is %q %d %v", i, k, v, ok)
		}
	}
	var texts *tree.Tree[string]
	if s, ok := texts.Get("a"); s != "" || ok || texts.Copy() != nil {
		t.Errorf("Get is %q %v", s, ok)
	}
}

// history is a tree beside the map that it must agree with.
type history struct {
	tree *tree.Tree[int]
	want map[string]int
}

func (h history) step(t *testing.T, r *rand.Rand, span int) {
	t.Helper()
	key := strconv.Itoa(r.Intn(span))
	if r.Intn(8) == 0 {
		key = awkward()[r.Intn(len(awkward()))]
	}
	_, present := h.want[key]
	if r.Intn(2) == 0 {
		if h.tree.Delete(key) != present {
			t.Fatalf("Delete(%q) is not %v", key, present)
		}
		delete(h.want, key)
		return
	}
	v := r.Intn(1000)
	if h.tree.Put(key, v) == present {
		t.Fatalf("Put(%q) is %v", key, present)
	}
	h.want[key] = v
}

func (h history) copy() history {
	want := map[string]int{}
	for k, v := range h.want {
		want[k] = v
	}
	return history{h.tree.Copy(), want}
}

func TestRandomHistories(t *testing.T) {
	for seed := range int64(12) {
		r := rand.New(rand.NewSource(seed))
		span := []int{10, 40, 300}[seed%3]
		l := []history{{tree.New[int](), map[string]int{}}}
		for range 3000 {
			i := r.Intn(len(l))
			if r.Intn(50) == 0 {
				l[r.Intn(len(l))] = l[i].copy()
			}
			if len(l) < 5 {
				l = append(l, l[i].copy())
			}
			l[i].step(t, r, span)
			if r.Intn(40) == 0 {
				for _, h := range l {
					checkTree(t, h.tree, h.want, strconv.Itoa(r.Intn(span)), "", "\xff\xff\xff\xff")
				}
			}
		}
	}
}
