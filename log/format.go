package log

import (
	"refit/api"
)

const (
	heads     = 2 // the sectors before frame 0
	maxEpoch  = 1<<32 - 1
	numberEnd = 1 << 62 // the least number that is too great for a head
)

// Where the parts of a head and of a frame begin.
const (
	epochAt        = 8 // of a head, behind its number
	baseAt         = 12
	headSizeAt     = 16
	headContentsAt = 17

	frameAt         = 4 // of a frame, behind the epoch
	lastAt          = 8
	partSizeAt      = 9
	frameContentsAt = 10

	copySize = 8 // the bytes that stand at the beginning and at the end
	copyAt   = api.SectorSize - copySize
)

// block is the contents of a sector.
type block [api.SectorSize]byte

// head is a head of a log.
type head struct {
	n        int
	epoch    int
	base     int // frames of an epoch below it are from before the last Reset
	contents []byte
}

// next returns the head that is behind h, with the same base and contents.
func (h head) next() head {
	h.n++
	h.epoch++
	return h
}

func (h head) block() block {
	var b block
	putNumber(b[:epochAt], h.n)
	putNumber(b[epochAt:baseAt], h.epoch)
	putNumber(b[baseAt:headSizeAt], h.base)
	b[headSizeAt] = byte(len(h.contents))
	copy(b[headContentsAt:copyAt], h.contents)
	return b.doubled()
}

// headIn returns the head in sector i, and whether it is valid.
func headIn(b block, i int) (head, bool) {
	h := head{
		n:     number(b[:epochAt]),
		epoch: number(b[epochAt:baseAt]),
		base:  number(b[baseAt:headSizeAt]),
	}
	size := int(b[headSizeAt])
	// A number of more than 63 bits has become a negative one.
	if !b.whole() || h.n <= 0 || h.n >= numberEnd || h.n%heads != i || size > api.HeadSize || h.base > h.epoch {
		return head{}, false
	}
	h.contents = b[headContentsAt : headContentsAt+size]
	return h, true
}

// frame is a frame of a log.
type frame struct {
	epoch    int
	k        int
	last     bool // of its batch
	contents []byte
}

func (f frame) block() block {
	var b block
	putNumber(b[:frameAt], f.epoch)
	putNumber(b[frameAt:lastAt], f.k)
	if f.last {
		b[lastAt] = 1
	}
	b[partSizeAt] = byte(len(f.contents))
	copy(b[frameContentsAt:copyAt], f.contents)
	return b.doubled()
}

// frameIn returns the frame in a sector, and whether it is valid there, as far as its own sector tells.
func frameIn(b block, k int) (frame, bool) {
	f := frame{epoch: number(b[:frameAt]), k: number(b[frameAt:lastAt]), last: b[lastAt] == 1}
	size := int(b[partSizeAt])
	if !b.whole() || f.k != k || b[lastAt] > 1 || size > api.FrameSize {
		return frame{}, false
	}
	f.contents = b[frameContentsAt : frameContentsAt+size]
	return f, true
}

// follows reports whether f is valid behind the frame before it, in a log whose head has that epoch.
func (f frame) follows(before frame, epoch int) bool {
	// A batch has one epoch, so that none is made of the frames of two Appends.
	if !before.last && f.epoch != before.epoch {
		return false
	}
	return f.epoch >= 1 && f.epoch >= before.epoch && f.epoch <= epoch
}

// doubled returns b with its first bytes at its end too: of a write that is torn the two differ.
func (b block) doubled() block {
	copy(b[copyAt:], b[:copySize])
	return b
}

// whole reports whether the first bytes of b are at its end too.
func (b block) whole() bool {
	return [copySize]byte(b[:copySize]) == [copySize]byte(b[copyAt:])
}

// putNumber fills b with n, most significant byte first.
func putNumber(b []byte, n int) {
	for i := range b {
		b[i] = byte(n >> (8 * (len(b) - 1 - i)))
	}
}

func number(b []byte) int {
	n := 0
	for _, c := range b {
		n = n<<8 | int(c)
	}
	return n
}
