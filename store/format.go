package store

import (
	"refit/api"
	"refit/tree"
	"refit/wire"
)

const (
	leastSectors = 16
	logHeads     = 2 // the sectors of a log before its frames
	halves       = 2
)

// layout says in which sectors of a device the parts of a store are.
type layout struct {
	frames int // of the log
	half   int // the sectors of each half
}

func layoutOf(sectors int) layout {
	frames := sectors / 4
	return layout{frames: frames, half: (sectors - logHeads - frames) / halves}
}

// start returns the first sector of a half.
func (l layout) start(half int) int {
	return logHeads + l.frames + half*l.half
}

// room returns the number of bytes of a half.
func (l layout) room() int {
	return l.half * api.SectorSize
}

// other returns the half that is not this one.
func other(half int) int {
	return halves - 1 - half
}

// place says where a snapshot is.
type place struct {
	half int
	size int // in bytes
}

// head returns the contents of the head of a log whose snapshot is at p.
func (p place) head() []byte {
	var w wire.Writer
	w.Number(p.half)
	w.Number(p.size)
	return w.Bytes()
}

// placeIn returns the place that the head of a log names, in halves with room for so many bytes, and whether it names one.
func placeIn(head []byte, room int) (place, bool) {
	r := wire.Read(head)
	half := r.Count(halves - 1)
	size := r.Count(room)
	if !r.End() {
		return place{}, false
	}
	return place{half: half, size: size}, true
}

// batchOf returns the batch of changes.
func batchOf(l []api.Change) []byte {
	var w wire.Writer
	w.Number(len(l))
	for _, c := range l {
		w.Flag(c.Gone)
		w.Text(c.Key)
		if !c.Gone {
			w.Text(c.Value)
		}
	}
	return w.Bytes()
}

// changesIn returns the changes of a batch, and whether it is one.
func changesIn(batch []byte) ([]api.Change, bool) {
	r := wire.Read(batch)
	var l []api.Change
	// A change has more than one byte, so a greater number of them is wrong.
	for range r.Count(len(batch)) {
		c := api.Change{Gone: r.Flag()}
		c.Key = r.Text()
		if !c.Gone {
			c.Value = r.Text()
		}
		// A bad reader has no key either.
		if c.Key == "" {
			return nil, false
		}
		l = append(l, c)
	}
	return l, r.End()
}

// snapshotOf returns the snapshot of a tree.
func snapshotOf(t *tree.Tree[string]) []byte {
	var w wire.Writer
	w.Number(t.Len())
	for key, value := range t.From("") {
		w.Text(key)
		w.Text(value)
	}
	return w.Bytes()
}

// treeIn returns the tree of a snapshot, and whether it is one.
func treeIn(snapshot []byte) (*tree.Tree[string], bool) {
	r := wire.Read(snapshot)
	t := tree.New[string]()
	before := ""
	// A key has more than one byte, so a greater number of them is wrong.
	for range r.Count(len(snapshot)) {
		key := r.Text()
		// An empty key, which is all that a bad reader has, is not above the one before it either.
		if key <= before {
			return nil, false
		}
		t.Put(key, r.Text())
		before = key
	}
	return t, r.End()
}
