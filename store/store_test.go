package store_test

import (
	"encoding/binary"
	"maps"
	"math"
	"slices"
	"strconv"
	"strings"
	"testing"

	"refit/api"
	"refit/log"
	"refit/sector"
	"refit/store"
)

// number, text, batch, snapshot and head are the encodings that the chapters say.
func number(n int) string {
	var b []byte
	for ; n > 0; n >>= 8 {
		b = append([]byte{byte(n)}, b...)
	}
	return string([]byte{byte(len(b))}) + string(b)
}

func text(s string) string { return number(len(s)) + s }

func batch(l ...api.Change) string {
	b := number(len(l))
	for _, c := range l {
		if c.Gone {
			b += "\x01\x01" + text(c.Key)
		} else {
			b += "\x00" + text(c.Key) + text(c.Value)
		}
	}
	return b
}

func snapshot(keysAndValues ...string) string {
	b := number(len(keysAndValues) / 2)
	for _, s := range keysAndValues {
		b += text(s)
	}
	return b
}

func head(half, size int) string { return number(half) + number(size) }

// framesIn, halfIn and startOf are where the chapter says that the parts are.
func framesIn(sectors int) int { return sectors / 4 }

func halfIn(sectors int) int { return (sectors - 2 - framesIn(sectors)) / 2 }

func startOf(sectors, half int) int { return 2 + framesIn(sectors) + half*halfIn(sectors) }

// framesOf is how many frames a batch of so many bytes needs.
func framesOf(size int) int { return (size + api.FrameSize - 1) / api.FrameSize }

// sectorsOf is how many sectors a snapshot of so many bytes needs.
func sectorsOf(size int) int { return (size + api.SectorSize - 1) / api.SectorSize }

func set(key, value string) api.Change { return api.Change{Key: key, Value: value} }

func gone(key string) api.Change { return api.Change{Key: key, Gone: true} }

func device(t *testing.T, sectors int) *sector.Device {
	t.Helper()
	d, err := sector.New(sectors)
	if err != api.OK {
		t.Fatalf("sector.New(%d) is %v", sectors, err)
	}
	return d
}

func opened(t *testing.T, d *sector.Device) *store.Store {
	t.Helper()
	s, err := store.Open(d)
	if s == nil || err != api.OK {
		t.Fatalf("Open is %v, %v", s, err)
	}
	return s
}

func noOpen(t *testing.T, d *sector.Device, want api.Errno) {
	t.Helper()
	if s, err := store.Open(d); s != nil || err != want {
		t.Errorf("Open is %v, %v, want %v", s, err, want)
	}
}

// fresh is an empty store on a new device.
func fresh(t *testing.T, sectors int) (*sector.Device, *store.Store) {
	t.Helper()
	d := device(t, sectors)
	return d, opened(t, d)
}

func wantErr(t *testing.T, call string, got, want api.Errno) {
	t.Helper()
	if got != want {
		t.Errorf("%s is %v, want %v", call, got, want)
	}
}

func commitOK(t *testing.T, s *store.Store, l ...api.Change) {
	t.Helper()
	wantErr(t, "Commit", s.Commit(l), api.OK)
}

func squeezeOK(t *testing.T, s *store.Store) {
	t.Helper()
	wantErr(t, "Squeeze", s.Squeeze(), api.OK)
}

// keysOf tells the keys and values of a store, in order.
func keysOf(s *store.Store) string {
	var l []string
	for k, v := range s.Tree().From("") {
		l = append(l, k+"="+v)
	}
	return strings.Join(l, " ")
}

// wantStore checks all that a store that is not down tells: its keys, which want has with their values, in order.
func wantStore(t *testing.T, s *store.Store, commits int, want string) {
	t.Helper()
	if got := keysOf(s); got != want {
		t.Errorf("the store has %.300q, want %.300q", got, want)
	}
	if s.Commits() != commits || s.Down() {
		t.Errorf("Commits is %d, Down %t, want %d, false", s.Commits(), s.Down(), commits)
	}
	for k, v := range s.Tree().From("") {
		if got, ok := s.Get(k); got != v || !ok {
			t.Errorf("Get(%.50q) is %.50q, %t, want %.50q, true", k, got, ok, v)
		}
	}
}

// wantDown checks that a store is down and takes nothing any more, but tells what it has.
func wantDown(t *testing.T, s *store.Store, commits int, want string) {
	t.Helper()
	for _, l := range [][]api.Change{nil, {set("late", "x")}, {gone("a")}, {set("", "x")}, {set("a", strings.Repeat("v", 4001))}} {
		wantErr(t, "Commit of a store that is down", s.Commit(l), api.ErrDown)
	}
	wantErr(t, "Squeeze of a store that is down", s.Squeeze(), api.ErrDown)
	if got := keysOf(s); got != want || s.Commits() != commits || !s.Down() {
		t.Errorf("down, the store has %.300q, Commits is %d, Down %t, want %.300q, %d, true", got, s.Commits(), s.Down(), want, commits)
	}
	if _, ok := s.Get("late"); ok {
		t.Errorf("Get finds the key of a Commit that failed")
	}
}

// copyOf is a new device with the same bytes, on which a store can be opened while another one is in use.
func copyOf(t *testing.T, d *sector.Device) *sector.Device {
	t.Helper()
	c := device(t, d.Sectors())
	for i := range d.Sectors() {
		b, err := d.Read(i)
		if err != api.OK {
			t.Fatalf("Read(%d) is %v", i, err)
		}
		put(t, c, i, string(b))
	}
	return c
}

// put makes b the durable contents of a sector.
func put(t *testing.T, d *sector.Device, i int, b string) {
	t.Helper()
	if err := d.Write(i, []byte(b)); err != api.OK {
		t.Fatalf("Write(%d) is %v", i, err)
	}
	if err := d.Flush(); err != api.OK {
		t.Fatalf("Flush is %v", err)
	}
}

// wantDurable checks what a store has that is opened on a device, twice: so many batches, and these keys. The device is left as it is.
func wantDurable(t *testing.T, d *sector.Device, commits int, want string) {
	t.Helper()
	if d.Waiting() != 0 {
		t.Errorf("%d writes are waiting", d.Waiting())
	}
	c := copyOf(t, d)
	for range 2 {
		wantStore(t, opened(t, c), commits, want)
	}
}

func wantSector(t *testing.T, d *sector.Device, i int, want string) {
	t.Helper()
	want += strings.Repeat("\x00", api.SectorSize-len(want))
	if b, err := d.Read(i); string(b) != want || err != api.OK {
		t.Errorf("sector %d is\n%x, %v, want\n%x", i, b, err, want)
	}
}

// untouched returns a function that checks that since now the device was neither written nor flushed.
func untouched(t *testing.T, d *sector.Device) func() {
	calls, waiting := d.Calls(), d.Waiting()
	return func() {
		t.Helper()
		if d.Calls() != calls || d.Waiting() != waiting {
			t.Errorf("the device was called: Calls is %d, Waiting %d, want %d, %d", d.Calls(), d.Waiting(), calls, waiting)
		}
	}
}

// calls is how many calls of Write and Flush do makes.
func calls(d *sector.Device, do func()) int {
	before := d.Calls()
	do()
	return d.Calls() - before
}

func TestNilStore(t *testing.T) {
	var s *store.Store
	for _, l := range [][]api.Change{nil, {set("a", "1")}, {set("", "1")}} {
		wantErr(t, "Commit of a nil store", s.Commit(l), api.ErrNil)
	}
	wantErr(t, "Squeeze of a nil store", s.Squeeze(), api.ErrNil)
	if v, ok := s.Get("a"); v != "" || ok {
		t.Errorf("Get of a nil store is %q, %t", v, ok)
	}
	if x := s.Tree(); x != nil {
		t.Errorf("Tree of a nil store is %v", x)
	}
	if s.Commits() != 0 || s.Down() {
		t.Errorf("of a nil store, Commits is %d and Down %t", s.Commits(), s.Down())
	}
}

// P10.2: Get, Tree and Down

func TestGet(t *testing.T) {
	d, s := fresh(t, 40)
	commitOK(t, s, set("a", "1"), set("b", ""), set("\x00\xff", "\x00"), set("ab", "2"))
	for i := range 2 {
		for k, want := range map[string]string{"a": "1", "b": "", "\x00\xff": "\x00", "ab": "2"} {
			if v, ok := s.Get(k); v != want || !ok {
				t.Errorf("%d: Get(%q) is %q, %t, want %q, true", i, k, v, ok, want)
			}
		}
		for _, k := range []string{"", "A", "aa", "abc", "\x00", "c", strings.Repeat("a", 2000)} {
			if v, ok := s.Get(k); v != "" || ok {
				t.Errorf("%d: Get(%.20q) is %q, %t", i, k, v, ok)
			}
		}
		s = opened(t, d)
	}
	commitOK(t, s, gone("a"))
	if v, ok := s.Get("a"); v != "" || ok {
		t.Errorf("Get of a removed key is %q, %t", v, ok)
	}
}

func TestTree(t *testing.T) {
	d, s := fresh(t, 40)
	if x := s.Tree(); x == nil || x.Len() != 0 {
		t.Errorf("Tree of an empty store is %v", x)
	}
	commitOK(t, s, set("b", "2"), set("a", "1"), set("c", "3"))
	x, y := s.Tree(), s.Tree()
	x.Put("a", "other")
	x.Put("d", "new")
	x.Delete("b")
	wantStore(t, s, 1, "a=1 b=2 c=3")
	if y.Len() != 3 {
		t.Errorf("a tree has changed with another one: Len is %d", y.Len())
	}
	squeezeOK(t, s)
	wantDurable(t, d, 0, "a=1 b=2 c=3")

	commitOK(t, s, set("a", "changed"), gone("c"), set("e", "5"))
	if got := maps.Collect(y.From("")); !maps.Equal(got, map[string]string{"a": "1", "b": "2", "c": "3"}) {
		t.Errorf("a tree has changed with the store: %v", got)
	}
	if k, v, ok := x.At(0); k != "a" || v != "other" || !ok || x.Len() != 3 {
		t.Errorf("a changed tree has changed with the store: %q, %q, %t", k, v, ok)
	}
	wantStore(t, s, 2, "a=changed b=2 e=5")
}

// A walk over a tree goes on as it began, whatever is committed meanwhile.
func TestTreeWhileCommitting(t *testing.T) {
	_, s := fresh(t, 100)
	commitOK(t, s, set("a", "1"), set("b", "2"), set("c", "3"))
	var l []string
	for k, v := range s.Tree().From("") {
		l = append(l, k+v)
		commitOK(t, s, gone("b"), set(k+"x", "new"), set("c", "9"))
	}
	if !slices.Equal(l, []string{"a1", "b2", "c3"}) {
		t.Errorf("the walk yields %v", l)
	}
	wantStore(t, s, 4, "a=1 ax=new bx=new c=9 cx=new")
}

func TestNotDown(t *testing.T) {
	d, s := fresh(t, 16)
	for _, l := range [][]api.Change{{set("", "x")}, {set("a", strings.Repeat("v", 4000))}} {
		if err := s.Commit(l); err != api.ErrArg && err != api.ErrFull {
			t.Errorf("Commit is %v", err)
		}
		wantStore(t, s, 0, "")
	}
	d.Limit(0)
	wantStore(t, s, 0, "") // the device is off, but nothing has failed
	wantErr(t, "Commit without changes", s.Commit(nil), api.OK)
	d.Limit(2)
	commitOK(t, s, set("a", "1"))
	wantStore(t, s, 1, "a=1")
}

// P10.3: Commit

func TestCommitBytes(t *testing.T) {
	d, s := fresh(t, 16)
	if n := calls(d, func() { commitOK(t, s, set("a", "1"), gone("b"), set("c", "")) }); n != 2 || d.Waiting() != 0 {
		t.Errorf("Commit of a batch of one frame makes %d calls, and leaves %d writes", n, d.Waiting())
	}
	want := "\x01\x03" + "\x00\x01\x01a\x01\x011" + "\x01\x01\x01\x01b" + "\x00\x01\x01c\x00"
	if got := batch(set("a", "1"), gone("b"), set("c", "")); got != want {
		t.Fatalf("the batch of this test is %q, want %q", got, want)
	}
	mark := "\x00\x00\x00\x01\x00\x00\x00\x00"
	frame := mark + "\x01" + string([]byte{byte(len(want))}) + want
	wantSector(t, d, 2, frame+strings.Repeat("\x00", 56-len(frame))+mark)

	long := strings.Repeat("v", 2*api.FrameSize)
	if n := calls(d, func() { commitOK(t, s, set("long", long)) }); n != framesOf(len(batch(set("long", long))))+1 {
		t.Errorf("Commit of a long batch makes %d calls", n)
	}
	wantDurable(t, d, 2, "a=1 c= long="+long)
}

func TestCommitInOrder(t *testing.T) {
	for _, c := range []struct {
		changes []api.Change
		want    string
	}{
		{[]api.Change{set("a", "1")}, "a=1 k=old z=last"},
		{[]api.Change{set("k", "new")}, "k=new z=last"},
		{[]api.Change{set("k", "")}, "k= z=last"},
		{[]api.Change{gone("k")}, "z=last"},
		{[]api.Change{gone("none")}, "k=old z=last"},
		{[]api.Change{gone("k"), gone("k")}, "z=last"},
		{[]api.Change{set("k", "1"), set("k", "2"), set("k", "3")}, "k=3 z=last"},
		{[]api.Change{set("k", "1"), gone("k")}, "z=last"},
		{[]api.Change{gone("k"), set("k", "1")}, "k=1 z=last"},
		{[]api.Change{set("a", "1"), gone("a"), set("a", "2"), gone("z"), gone("z"), set("z", "3")}, "a=2 k=old z=3"},
		{[]api.Change{{Key: "k", Value: "not looked at", Gone: true}}, "z=last"},
		{[]api.Change{gone("z"), gone("k")}, ""},
	} {
		d, s := fresh(t, 60)
		commitOK(t, s, set("z", "last"), set("k", "old"))
		commitOK(t, s, c.changes...)
		wantStore(t, s, 2, c.want)
		wantDurable(t, d, 2, c.want)
		squeezeOK(t, s)
		wantStore(t, s, 2, c.want)
		wantDurable(t, d, 0, c.want)
	}
}

func TestCommitWithoutChanges(t *testing.T) {
	d, s := fresh(t, 16)
	for range framesIn(16) {
		commitOK(t, s, set("a", "1"))
	}
	check := untouched(t, d)
	for range 3 { // also on a log that is full
		wantErr(t, "Commit of nil", s.Commit(nil), api.OK)
		wantErr(t, "Commit of an empty list", s.Commit([]api.Change{}), api.OK)
	}
	check()
	wantStore(t, s, 4, "a=1")
	wantDurable(t, d, 4, "a=1")
}

func TestCommitOfTooMuch(t *testing.T) {
	key, value := strings.Repeat("k", api.MaxKey), strings.Repeat("v", api.MaxValue)
	d, s := fresh(t, 1000)
	commitOK(t, s, set("a", "1"))
	check := untouched(t, d)
	for i, l := range [][]api.Change{
		{set("", "x")},
		{gone("")},
		{set(key+"k", "x")},
		{gone(key + "k")},
		{set("b", value+"v")},
		{{Key: "b", Value: value + "v", Gone: true}},
		{set("b", "x"), gone("a"), set("", "x")},
		{set("", "x"), set("b", "x")},
		{set("b", "x"), set(key+"k", "x"), set("c", "x")},
		{gone("a"), set("c", value+"v")},
		{set("", value+"v")},
	} {
		wantErr(t, "Commit of list "+strconv.Itoa(i), s.Commit(l), api.ErrArg)
		wantStore(t, s, 1, "a=1")
	}
	check()
	wantDurable(t, d, 1, "a=1")

	commitOK(t, s, set(key, value), gone("a"), api.Change{Key: "b", Value: value, Gone: true})
	wantStore(t, s, 2, key+"="+value)
	wantDurable(t, d, 2, key+"="+value)
	squeezeOK(t, s)
	commitOK(t, s, gone(key))
	wantDurable(t, d, 1, "")
}

// ErrArg comes before ErrFull: no device has a say in it.
func TestCommitOfTooMuchWithoutRoom(t *testing.T) {
	d, s := fresh(t, 16)
	for range framesIn(16) {
		commitOK(t, s, set("a", "1"))
	}
	check := untouched(t, d)
	wantErr(t, "Commit", s.Commit([]api.Change{set("b", strings.Repeat("v", 4001))}), api.ErrArg)
	wantErr(t, "Commit", s.Commit([]api.Change{set("", "x")}), api.ErrArg)
	wantErr(t, "Commit", s.Commit(slices.Repeat([]api.Change{set("b", strings.Repeat("v", 4000))}, 17)), api.ErrArg)
	check()
	d.Limit(0)
	wantErr(t, "Commit", s.Commit([]api.Change{set("", "x")}), api.ErrArg)
	wantStore(t, s, 4, "a=1")
}

// greatest is a list whose batch has exactly MaxBatch bytes.
func greatest(t *testing.T) []api.Change {
	t.Helper()
	var l []api.Change
	for i := range 16 {
		l = append(l, set("k"+string([]byte{byte('a' + i)}), strings.Repeat("v", api.MaxValue)))
	}
	l = append(l, set("last", ""))
	// Its length has two bytes more than that of an empty text.
	l[16].Value = strings.Repeat("w", api.MaxBatch-len(batch(l...))-2)
	if n := len(batch(l...)); n != api.MaxBatch {
		t.Fatalf("the batch has %d bytes", n)
	}
	return l
}

func TestCommitOfTheGreatestBatch(t *testing.T) {
	d, s := fresh(t, 8192)
	l := greatest(t)
	more := slices.Clone(l)
	more[16].Value += "w"
	check := untouched(t, d)
	wantErr(t, "Commit of a byte more", s.Commit(more), api.ErrArg)
	more[16] = gone("last")
	more = append(more, slices.Repeat([]api.Change{gone("k")}, 400)...)
	wantErr(t, "Commit of many removals", s.Commit(more), api.ErrArg)
	wantErr(t, "Commit of removals alone", s.Commit(slices.Repeat([]api.Change{gone("k")}, 13107)), api.ErrArg)
	check()
	wantStore(t, s, 0, "")
	if n := calls(d, func() { commitOK(t, s, l...) }); n != framesOf(api.MaxBatch)+1 {
		t.Errorf("Commit makes %d calls", n)
	}
	if v, ok := s.Get("last"); v != l[16].Value || !ok || s.Tree().Len() != 17 {
		t.Errorf("Get is %d bytes, %t, of %d keys", len(v), ok, s.Tree().Len())
	}
	u := opened(t, d)
	wantStore(t, u, 1, keysOf(s))
	squeezeOK(t, u)
	wantDurable(t, d, 0, keysOf(s))
	commitOK(t, u, slices.Repeat([]api.Change{gone("k")}, 13106)...)
	wantDurable(t, d, 1, keysOf(s))
}

// A store keeps nothing of a list, and changes nothing of it, nor behind its end.
func TestCommitOfAListThatChanges(t *testing.T) {
	d, s := fresh(t, 40)
	l := []api.Change{set("a", "1"), set("b", "2"), set("spare", "x")}[:2]
	commitOK(t, s, l...)
	wantErr(t, "Commit", s.Commit(l), api.OK)
	if !slices.Equal(l[:3], []api.Change{set("a", "1"), set("b", "2"), set("spare", "x")}) {
		t.Errorf("Commit has changed its list to %v", l[:3])
	}
	l[0], l[1] = set("c", "3"), gone("b")
	wantStore(t, s, 2, "a=1 b=2")
	wantDurable(t, d, 2, "a=1 b=2")
}

// A log that is full is emptied by a snapshot, as often as that takes.
func TestCommitOnAFullLog(t *testing.T) {
	d, s := fresh(t, 18) // four frames, halves of six sectors
	for i := range 40 {
		want := 2
		if i > 0 && i%4 == 0 {
			want = 1 + 1 + 2 + 2 // the snapshot, its flush, and the head
		}
		k := string([]byte{byte('a' + i%3)})
		if n := calls(d, func() { commitOK(t, s, set(k, strconv.Itoa(i))) }); n != want {
			t.Errorf("Commit %d makes %d calls, want %d", i, n, want)
		}
		wantStore(t, s, i+1, keysOf(s))
		if v, ok := s.Get(k); v != strconv.Itoa(i) || !ok {
			t.Errorf("Get is %q, %t, want %d", v, ok, i)
		}
		wantDurable(t, d, i%4+1, keysOf(s))
	}
	wantStore(t, s, 40, "a=39 b=37 c=38")
}

// batchChange is a change whose batch has so many bytes.
func batchChange(t *testing.T, key string, size int) api.Change {
	t.Helper()
	for value := ""; len(value) <= api.MaxValue; value += "v" {
		if c := set(key, value); len(batch(c)) == size {
			return c
		}
	}
	t.Fatalf("there is no batch of %d bytes", size)
	return api.Change{}
}

// A batch that needs all frames has room behind a snapshot alone; one that needs more has none, and the snapshot is made for nothing.
func TestCommitOfAsManyFramesAsThereAre(t *testing.T) {
	for _, sectors := range []int{16, 19, 20, 37, 64} {
		most := framesIn(sectors) * api.FrameSize
		d, s := fresh(t, sectors)
		k := batchChange(t, "k", most)
		commitOK(t, s, k)
		wantDurable(t, d, 1, "k="+k.Value)
		commitOK(t, s, set("a", "1")) // with a snapshot
		wantDurable(t, d, 1, "a=1 k="+k.Value)
		before := d.Calls()
		commitOK(t, s, batchChange(t, "k", most-1)) // with one again
		if made := d.Calls() - before; made != sectorsOf(len(snapshot("a", "1", "k", k.Value)))+1+2+framesIn(sectors)+1 {
			t.Errorf("of %d sectors: Commit makes %d calls", sectors, made)
		}
		want := "a=1 k=" + k.Value[1:]
		wantDurable(t, d, 1, want)
		for range 3 {
			wantErr(t, "Commit of a byte more", s.Commit([]api.Change{batchChange(t, "k", most+1)}), api.ErrFull)
			wantStore(t, s, 3, want)
			wantDurable(t, d, 0, want) // the batches are in the snapshot
		}
		commitOK(t, s, gone("k"), gone("none"))
		wantStore(t, s, 4, "a=1")
		wantDurable(t, d, 1, "a=1")
	}
}

// On a log that is full, Commit fails if the snapshot has no room in a half, and nothing is written.
func TestCommitWithoutRoomForASnapshot(t *testing.T) {
	d, s := fresh(t, 16) // four frames, halves of 320 bytes
	v := strings.Repeat("v", 101)
	commitOK(t, s, set("a", v))
	commitOK(t, s, set("b", v))
	commitOK(t, s, set("c", v+"v"))
	commitOK(t, s, gone("none"))
	want := "a=" + v + " b=" + v + " c=" + v + "v"
	wantStore(t, s, 4, want)
	wantDurable(t, d, 2, want)
	check := untouched(t, d)
	for range 2 {
		wantErr(t, "Squeeze", s.Squeeze(), api.ErrFull)
		wantErr(t, "Commit", s.Commit([]api.Change{set("d", "4")}), api.ErrFull)
		wantErr(t, "Commit of a removal", s.Commit([]api.Change{gone("a")}), api.ErrFull)
		wantStore(t, s, 4, want)
	}
	check()
	wantDurable(t, d, 2, want)
}

// P10.4: Squeeze

func TestSqueezeOfAnEmptyStore(t *testing.T) {
	d, s := fresh(t, 16)
	for i := range 5 {
		if n := calls(d, func() { squeezeOK(t, s) }); n != 4 {
			t.Errorf("Squeeze %d makes %d calls", i, n)
		}
		wantSector(t, d, startOf(16, i%2), "\x00")
		wantHead(t, d, head(i%2, 1))
		wantStore(t, s, 0, "")
		wantDurable(t, d, 0, "")
	}
	commitOK(t, s, set("a", "1"))
	commitOK(t, s, gone("a"))
	squeezeOK(t, s)
	wantStore(t, s, 2, "")
	wantDurable(t, d, 0, "")
}

// headOf is the contents of the head of the log.
func headOf(t *testing.T, d *sector.Device) string {
	t.Helper()
	l, err := log.Open(copyOf(t, d), framesIn(d.Sectors()))
	if err != api.OK {
		t.Fatalf("log.Open is %v", err)
	}
	return string(l.Head())
}

func wantHead(t *testing.T, d *sector.Device, want string) {
	t.Helper()
	if got := headOf(t, d); got != want {
		t.Errorf("the head is %q, want %q", got, want)
	}
}

// Each snapshot goes into the half that the head does not name, and leaves the other half and all behind itself as it is.
func TestSqueezeBytes(t *testing.T) {
	for _, sectors := range []int{16, 17, 18, 19, 20, 21, 22, 23, 50, 101} {
		d := device(t, sectors)
		junk := strings.Repeat("junk", 16)
		for i := 2 + framesIn(sectors); i < sectors; i++ {
			put(t, d, i, junk)
		}
		s := opened(t, d)
		v := strings.Repeat("v", 70)
		commitOK(t, s, set("b", v), set("a", ""))
		for i := range 4 {
			want := snapshot("a", "", "b", v)
			if n := calls(d, func() { squeezeOK(t, s) }); n != 2+1+2 || len(want) < 65 || len(want) > 127 {
				t.Errorf("Squeeze %d makes %d calls", i, n)
			}
			wantHead(t, d, head(i%2, len(want)))
			at := startOf(sectors, i%2)
			wantSector(t, d, at, want[:64])
			wantSector(t, d, at+1, want[64:])
			for k := at + 2; k < at+halfIn(sectors); k++ {
				wantSector(t, d, k, junk)
			}
			if i == 0 {
				wantSector(t, d, startOf(sectors, 1), junk)
			}
			wantDurable(t, d, 0, "a= b="+v)
			v = strings.Repeat(strconv.Itoa(i), 80)
			commitOK(t, s, set("b", v))
			wantDurable(t, d, 1, "a= b="+v)
			if i%2 == 0 { // what the head names counts, also for another store
				s = opened(t, d)
			}
		}
	}
}

// A shorter snapshot over a longer one leaves the end of that in the half.
func TestSqueezeOverALongerSnapshot(t *testing.T) {
	d, s := fresh(t, 40)
	commitOK(t, s, set("a", strings.Repeat("x", 300)))
	squeezeOK(t, s)
	squeezeOK(t, s)
	commitOK(t, s, set("a", "1"), set("b", "2"))
	for range 3 {
		squeezeOK(t, s)
		wantStore(t, s, 2, "a=1 b=2")
		wantDurable(t, d, 0, "a=1 b=2")
	}
}

// filledTo commits values until the snapshot of the store has so many bytes.
func filledTo(t *testing.T, s *store.Store, size int) {
	t.Helper()
	var all []string
	for i := 0; ; i++ {
		key := "k" + string([]byte{byte('a' + i/26), byte('a' + i%26)})
		left := size - len(snapshot(append(all, key, "")...))
		if left < 0 {
			t.Fatalf("there is no snapshot of %d bytes", size)
		}
		// The length of a value takes a byte more than that of none.
		value := strings.Repeat("v", min(max(left-1, 0), 100))
		if rest := left - 1 - len(value); rest > 0 && rest < 10 {
			value = value[:50] // enough for one more key
		}
		commitOK(t, s, set(key, value))
		all = append(all, key, value)
		if len(snapshot(all...)) == size {
			return
		}
	}
}

func TestSqueezeOfAFullHalf(t *testing.T) {
	for _, sectors := range []int{16, 17, 18, 19, 20, 21, 22, 23, 33, 200} {
		room := halfIn(sectors) * api.SectorSize
		d, s := fresh(t, sectors)
		filledTo(t, s, room)
		want, commits := keysOf(s), s.Commits()
		half := 0
		if headOf(t, d) != "" {
			half = int(1 - headOf(t, d)[0])
		}
		for range 3 { // also beside a half that is full
			squeezeOK(t, s)
			wantHead(t, d, head(half, room))
			wantStore(t, s, commits, want)
			wantDurable(t, d, 0, want)
			half = 1 - half
		}
	}
}

func TestSqueezeWithoutRoom(t *testing.T) {
	for _, sectors := range []int{16, 17, 18, 19, 20, 21, 22, 23, 33, 200} {
		room := halfIn(sectors) * api.SectorSize
		d, s := fresh(t, sectors)
		filledTo(t, s, room-len(text("z")+text("v")))
		squeezeOK(t, s)
		commits := s.Commits()
		commitOK(t, s, set("z", "vv"))
		want := keysOf(s)
		check := untouched(t, d)
		for range 2 {
			wantErr(t, "Squeeze of a byte more", s.Squeeze(), api.ErrFull)
			wantStore(t, s, commits+1, want)
		}
		check()
		wantDurable(t, d, 1, want)
		commitOK(t, s, set("z", "v"))
		squeezeOK(t, s)
		wantStore(t, s, commits+2, keysOf(s))
		wantDurable(t, d, 0, keysOf(s))
	}
}

// A log whose epochs have come to their end takes no head, and so the store no snapshot any more.
func TestSqueezeBehindTheLastEpoch(t *testing.T) {
	d := device(t, 16)
	put(t, d, 0, headSector(2, math.MaxUint32-1, 0, ""))
	s := opened(t, d)
	commitOK(t, s, set("a", "1"))
	commitOK(t, s, set("b", "2"))
	for range 2 {
		wantErr(t, "Squeeze", s.Squeeze(), api.ErrFull)
		wantStore(t, s, 2, "a=1 b=2")
	}
	commitOK(t, s, gone("a"))
	commitOK(t, s, set("c", "3"))
	for range 2 {
		wantErr(t, "Commit on a full log", s.Commit([]api.Change{gone("b")}), api.ErrFull)
		wantStore(t, s, 4, "b=2 c=3")
	}
	noOpen(t, d, api.ErrFull)
}

// headSector is a sector with a head of a log, as chapter 7 says.
func headSector(n uint64, epoch, base uint32, contents string) string {
	b := binary.BigEndian.AppendUint64(nil, n)
	b = binary.BigEndian.AppendUint32(b, epoch)
	b = binary.BigEndian.AppendUint32(b, base)
	b = append(b, byte(len(contents)))
	b = append(b, contents...)
	b = append(b, make([]byte, 56-len(b))...)
	return string(binary.BigEndian.AppendUint64(b, n))
}
