package tree

import (
	"fmt"
	"math/rand"
	"slices"
	"strings"
	"testing"
)

// depth returns the number of levels of n. It fails the test if n has not the form of a node of a tree.
func depth[V any](t *testing.T, n *node[V], root bool) int {
	t.Helper()
	fewest := 4
	if root {
		fewest = 1
	}
	if root && len(n.kids) > 0 {
		fewest = 2
	}
	if len(n.keys) < fewest || len(n.keys) > 8 {
		t.Fatalf("a node with %d keys, of which the root: %v", len(n.keys), root)
	}
	if cap(n.keys) != len(n.keys) || cap(n.values) != len(n.values) || cap(n.kids) != len(n.kids) {
		t.Fatalf("a node with spare capacity: %d %d %d of %d", cap(n.keys), cap(n.values), cap(n.kids), len(n.keys))
	}
	for i := range n.keys[1:] {
		if n.keys[i] >= n.keys[i+1] {
			t.Fatalf("the key %q comes before %q", n.keys[i], n.keys[i+1])
		}
	}
	if len(n.kids) == 0 {
		if len(n.values) != len(n.keys) || n.size != len(n.keys) {
			t.Fatalf("a leaf with %d keys, %d values and the size %d", len(n.keys), len(n.values), n.size)
		}
		return 1
	}
	return 1 + depthOfKids(t, n)
}

// depthOfKids returns the number of levels that all children of n have.
func depthOfKids[V any](t *testing.T, n *node[V]) int {
	t.Helper()
	if len(n.kids) != len(n.keys) || len(n.values) != 0 {
		t.Fatalf("an inner node with %d keys, %d children and %d values", len(n.keys), len(n.kids), len(n.values))
	}
	size, levels := 0, depth(t, n.kids[0], false)
	for i, kid := range n.kids {
		if d := depth(t, kid, false); d != levels {
			t.Fatalf("children with %d and %d levels", levels, d)
		}
		if kid.keys[0] != n.keys[i] {
			t.Fatalf("a child that begins with %q instead of %q", kid.keys[0], n.keys[i])
		}
		size += kid.size
	}
	if size != n.size {
		t.Fatalf("an inner node of the size %d over %d keys", n.size, size)
	}
	return levels
}

// checkNodes fails the test if x has not the form of a tree, or has not so many keys.
func checkNodes[V any](t *testing.T, x *Tree[V], keys int) {
	t.Helper()
	if x.Len() != keys {
		t.Fatalf("%d keys instead of %d", x.Len(), keys)
	}
	levels := 0
	if keys > 0 {
		levels = depth(t, x.root, true)
	}
	if x.Levels() != levels {
		t.Fatalf("Levels is %d, and there are %d", x.Levels(), levels)
	}
}

// orders are the numbers below n, ascending, descending, mixed, and from both ends and from the middle.
func orders(n int) map[string][]int {
	up := make([]int, n)
	for i := range up {
		up[i] = i
	}
	down := slices.Clone(up)
	slices.Reverse(down)
	inward := make([]int, 0, n)
	for i := range n {
		if i%2 == 0 {
			inward = append(inward, i/2)
		} else {
			inward = append(inward, n-1-i/2)
		}
	}
	outward := slices.Clone(inward)
	slices.Reverse(outward)
	return map[string][]int{
		"ascending": up, "descending": down, "inward": inward, "outward": outward,
		"mixed": rand.New(rand.NewSource(int64(n))).Perm(n),
	}
}

func TestNodesBehindEveryPutAndDelete(t *testing.T) {
	for _, n := range []int{1, 4, 7, 8, 9, 12, 16, 33, 73, 400} {
		for in, puts := range orders(n) {
			for out, deletes := range orders(n) {
				t.Run(fmt.Sprintf("%d %s %s", n, in, out), func(t *testing.T) {
					x := New[int]()
					checkNodes(t, x, 0)
					for i, k := range puts {
						x.Put(fmt.Sprintf("%04d", k), k)
						checkNodes(t, x, i+1)
					}
					for i, k := range deletes {
						x.Delete(fmt.Sprintf("%04d", k))
						checkNodes(t, x, n-1-i)
					}
				})
			}
		}
	}
}

func TestNodesInRandomHistories(t *testing.T) {
	for seed := range int64(20) {
		r := rand.New(rand.NewSource(seed))
		x, present := New[int](), map[string]bool{}
		span := 20 << (seed % 6)
		for step := range 2000 {
			key := strings.Repeat("\xfe", r.Intn(3)) + fmt.Sprint(r.Intn(span))
			// It grows and shrinks in turn.
			if r.Intn(10) < 3+4*(step/400%2) {
				x.Delete(key)
				delete(present, key)
			} else {
				x.Put(key, step)
				present[key] = true
			}
			checkNodes(t, x, len(present))
		}
	}
}

// Behind a Put of a key that is present and a Delete of one that is not, the nodes are as before.
func TestNodesBehindNoChange(t *testing.T) {
	x := New[int]()
	for i := range 100 {
		x.Put(fmt.Sprintf("%03d", 2*i), i)
	}
	for i := range 100 {
		x.Put(fmt.Sprintf("%03d", 2*i), -i)
		checkNodes(t, x, 100)
		x.Delete(fmt.Sprintf("%03d", 2*i+1))
		checkNodes(t, x, 100)
	}
}

// The nodes of a tree are as they were, whatever is done to its copies.
func TestNodesOfCopies(t *testing.T) {
	r := rand.New(rand.NewSource(1))
	trees, sizes := []*Tree[int]{New[int]()}, []int{0}
	for step := range 1500 {
		i := r.Intn(len(trees))
		if len(trees) < 30 {
			trees, sizes = append(trees, trees[i].Copy()), append(sizes, sizes[i])
			i = len(trees) - 1
		}
		key := fmt.Sprint(r.Intn(60))
		if r.Intn(3) == 0 {
			if trees[i].Delete(key) {
				sizes[i]--
			}
		} else if trees[i].Put(key, step) {
			sizes[i]++
		}
		for j, x := range trees {
			checkNodes(t, x, sizes[j])
		}
	}
}

func TestSplicedSharesNoMemory(t *testing.T) {
	l := []int{1, 2, 3, 4}
	cases := []struct {
		from, to int
		e, want  []int
	}{
		{0, 0, nil, []int{1, 2, 3, 4}},
		{0, 0, []int{9}, []int{9, 1, 2, 3, 4}},
		{2, 2, []int{9}, []int{1, 2, 9, 3, 4}},
		{4, 4, []int{8, 9}, []int{1, 2, 3, 4, 8, 9}},
		{1, 2, []int{9}, []int{1, 9, 3, 4}},
		{1, 3, []int{9}, []int{1, 9, 4}},
		{3, 4, nil, []int{1, 2, 3}},
		{0, 2, nil, []int{3, 4}},
		{0, 4, nil, nil},
	}
	for _, c := range cases {
		s := spliced(l, c.from, c.to, c.e...)
		if !slices.Equal(s, c.want) || cap(s) != len(s) {
			t.Errorf("%d to %d with %d: %d, with the capacity %d", c.from, c.to, c.e, s, cap(s))
		}
		for i := range s {
			s[i] = 0
		}
		if !slices.Equal(l, []int{1, 2, 3, 4}) {
			t.Fatalf("%d to %d with %d has changed the list: %d", c.from, c.to, c.e, l)
		}
	}
}
