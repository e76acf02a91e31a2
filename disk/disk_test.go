package disk

import (
	"bytes"
	"math"
	"math/rand"
	"slices"
	"sync"
	"testing"

	"padlock/api"
)

// noBlocks are numbers that no disk has a block of.
var noBlocks = []int{-1, -2, -512, 512, 513, 1 << 16, 1 << 32, math.MinInt32, math.MaxInt32, math.MinInt, math.MaxInt}

// pattern returns the bytes of a block, which differ from those of any other seed from 0 to 65535, and from zeros.
func pattern(seed int) []byte {
	b := make([]byte, 72)
	for i := range b {
		b[i] = byte(i*7 + seed*31 + 1)
	}
	b[0], b[1], b[71] = byte(seed>>8), byte(seed), byte(seed)^255
	return b
}

func zeros() []byte {
	return make([]byte, 72)
}

func newDisk(t *testing.T, blocks int) *Disk {
	t.Helper()
	d, err := New(blocks)
	if d == nil || err != api.OK {
		t.Fatalf("New(%d): got %v, error %d", blocks, d, err)
	}
	return d
}

// flushed returns a disk whose block i has the durable content pattern(i), and the past zeros.
func flushed(t *testing.T, blocks int) *Disk {
	t.Helper()
	d := newDisk(t, blocks)
	for i := range blocks {
		write(t, d, i, pattern(i))
	}
	d.Flush()
	return d
}

func write(t *testing.T, d *Disk, i int, b []byte) {
	t.Helper()
	if err := d.Write(i, b); err != api.OK {
		t.Fatalf("Write(%d) of %d bytes: error %d", i, len(b), err)
	}
}

func checkRead(t *testing.T, d *Disk, i int, want []byte) {
	t.Helper()
	if got, err := d.Read(i); err != api.OK || !bytes.Equal(got, want) {
		t.Errorf("Read(%d): got %x, error %d, want %x", i, got, err, want)
	}
}

func checkDirty(t *testing.T, d *Disk, want int) {
	t.Helper()
	if got := d.Dirty(); got != want {
		t.Errorf("Dirty: got %d, want %d", got, want)
	}
}

// checkPast looks at the past, and leaves everything as it was, which other tests ask of Back.
func checkPast(t *testing.T, d *Disk, i int, want []byte) {
	t.Helper()
	did := d.Back(i)
	got, err := d.Read(i)
	if !d.Back(i) || !did || err != api.OK || !bytes.Equal(got, want) {
		t.Errorf("the past of block %d: got %x, error %d, want %x", i, got, err, want)
	}
}

// seen is everything that a disk shows of itself without a crash.
type seen struct {
	blocks, dirty int
	read, past    []string
}

func look(d *Disk) seen {
	s := seen{blocks: d.Blocks(), dirty: d.Dirty()}
	for i := range d.Blocks() {
		now, _ := d.Read(i)
		d.Back(i)
		past, _ := d.Read(i)
		d.Back(i)
		s.read, s.past = append(s.read, string(now)), append(s.past, string(past))
	}
	return s
}

func (s seen) same(other seen) bool {
	return s.blocks == other.blocks && s.dirty == other.dirty && slices.Equal(s.read, other.read) && slices.Equal(s.past, other.past)
}

// mixed returns a disk of 6 blocks, of which 1, 3 and 4 have written contents; all contents and pasts differ.
// Two of them with the same steps show whether one of them was changed, also what a crash would show.
func mixed(t *testing.T) *Disk {
	t.Helper()
	d := flushed(t, 6)
	for i := range 6 {
		write(t, d, i, pattern(100+i))
	}
	d.Flush()
	for _, i := range []int{4, 1, 3} {
		write(t, d, i, pattern(200+i))
	}
	return d
}

// checkUnchanged compares a disk with one as mixed returns it.
func checkUnchanged(t *testing.T, d *Disk, what string) {
	t.Helper()
	other := mixed(t)
	if !look(d).same(look(other)) {
		t.Errorf("%s: something was changed", what)
	}
	d.Crash(nil)
	other.Crash(nil)
	if !look(d).same(look(other)) {
		t.Errorf("%s: something was changed, as a crash shows", what)
	}
}

// P6.1: the numbers of blocks that a disk may have, and that its blocks, and their pasts, are zeros at first.
func TestNew(t *testing.T) {
	for _, blocks := range []int{1, 2, 3, 16, 255, 256, 257, 511, 512} {
		d := newDisk(t, blocks)
		if got := d.Blocks(); got != blocks {
			t.Errorf("Blocks: got %d, want %d", got, blocks)
		}
		checkDirty(t, d, 0)
		for i := range blocks {
			checkRead(t, d, i, zeros())
			checkPast(t, d, i, zeros())
		}
	}
}

// P6.1: the numbers of blocks that no disk may have; beside the error is no disk (R2).
func TestNewRefused(t *testing.T) {
	for _, blocks := range append([]int{0}, noBlocks...) {
		if blocks == 512 {
			continue
		}
		if d, err := New(blocks); d != nil || err != api.ErrArg {
			t.Errorf("New(%d): got %v, error %d, want error %d alone", blocks, d, err, api.ErrArg)
		}
	}
}

// The example of the chapter, with each way of keeping nothing.
func TestExample(t *testing.T) {
	for _, keep := range [][]bool{nil, {}, {false}, {false, true}} {
		d := newDisk(t, 3)
		write(t, d, 1, pattern(1))
		d.Crash(keep)
		checkRead(t, d, 1, zeros())
	}
}

// P6.1: what was written is read, in its own block alone.
func TestWriteAndRead(t *testing.T) {
	for _, blocks := range []int{1, 2, 7, 512} {
		d := newDisk(t, blocks)
		for i := range blocks {
			write(t, d, i, pattern(i))
			checkRead(t, d, i, pattern(i))
			if i+1 < blocks {
				checkRead(t, d, i+1, zeros())
			}
		}
		for i := range blocks {
			checkRead(t, d, i, pattern(i))
		}
	}
}

// P6.1: a block may be written again, flushed or not, and with what it has already.
func TestWriteAgain(t *testing.T) {
	d := newDisk(t, 2)
	write(t, d, 0, pattern(1))
	write(t, d, 0, pattern(2))
	checkRead(t, d, 0, pattern(2))
	checkDirty(t, d, 1)
	d.Flush()
	write(t, d, 0, pattern(3))
	checkRead(t, d, 0, pattern(3))
	write(t, d, 0, pattern(3))
	checkRead(t, d, 0, pattern(3))
	checkDirty(t, d, 1)
	write(t, d, 0, zeros())
	checkRead(t, d, 0, zeros())
	checkDirty(t, d, 1)
	checkRead(t, d, 1, zeros())
}

// P6.1: blocks that there are not.
func TestNoSuchBlock(t *testing.T) {
	for _, i := range append([]int{6, 7}, noBlocks...) {
		d := mixed(t)
		if b, err := d.Read(i); b != nil || err != api.ErrArg {
			t.Errorf("Read(%d): got %x, error %d, want error %d alone", i, b, err, api.ErrArg)
		}
		if err := d.Write(i, pattern(1)); err != api.ErrArg {
			t.Errorf("Write(%d): error %d, want %d", i, err, api.ErrArg)
		}
		if err := d.Write(i, nil); err != api.ErrArg {
			t.Errorf("Write(%d) of no bytes: error %d, want %d", i, err, api.ErrArg)
		}
		checkUnchanged(t, d, "calls for a block that there is not")
	}
}

// P6.1: any number of bytes but Raw is refused, that of a block that is not sealed among them.
func TestWrongNumberOfBytes(t *testing.T) {
	long := append(pattern(1), pattern(2)...)
	d := mixed(t)
	for i := range 6 {
		for n := range len(long) + 1 {
			if n == 72 {
				continue
			}
			if err := d.Write(i, long[:n]); err != api.ErrArg {
				t.Errorf("Write(%d) of %d bytes: error %d, want %d", i, n, err, api.ErrArg)
			}
		}
		if err := d.Write(i, nil); err != api.ErrArg {
			t.Errorf("Write(%d) of nil: error %d, want %d", i, err, api.ErrArg)
		}
		if err := d.Write(i, make([]byte, 1<<16+72)); err != api.ErrArg {
			t.Errorf("Write(%d) of many bytes: error %d, want %d", i, err, api.ErrArg)
		}
	}
	checkUnchanged(t, d, "writes of wrong numbers of bytes")
}

// P6.1: Flush makes every written content durable, and changes nothing else.
func TestFlush(t *testing.T) {
	d := mixed(t)
	before := look(d)
	d.Flush()
	checkDirty(t, d, 0)
	after := look(d)
	before.dirty = 0
	if !after.same(before) {
		t.Errorf("Flush changed what is read, or a past")
	}
	d.Crash(nil)
	if !look(d).same(before) {
		t.Errorf("a crash changed what was flushed")
	}
	d.Flush()
	if !look(d).same(before) {
		t.Errorf("a flush of nothing changed something")
	}
}

// P6.1: Dirty counts the blocks that were written, each once, until they are flushed or crash.
func TestDirty(t *testing.T) {
	d := newDisk(t, 5)
	for many, i := range []int{4, 0, 2} {
		write(t, d, i, pattern(i))
		checkDirty(t, d, many+1)
		write(t, d, i, pattern(9))
		checkDirty(t, d, many+1)
	}
	d.Flush()
	checkDirty(t, d, 0)
	write(t, d, 4, pattern(9))
	checkDirty(t, d, 1)
	d.Crash(nil)
	checkDirty(t, d, 0)
	write(t, d, 4, pattern(9))
	checkDirty(t, d, 1)
	d.Crash([]bool{true})
	checkDirty(t, d, 0)
	all := newDisk(t, 512)
	for i := range 512 {
		write(t, all, i, zeros())
	}
	checkDirty(t, all, 512)
}

// keeps returns all lists of up to so many elements.
func keeps(most int) [][]bool {
	lists := [][]bool{nil}
	for from := 0; len(lists[from]) < most; from++ {
		lists = append(lists, append(slices.Clone(lists[from]), false), append(slices.Clone(lists[from]), true))
	}
	return lists
}

// P6.2: each list of what is kept, shorter and longer ones too. The order of the blocks counts, not that of the writes.
func TestCrash(t *testing.T) {
	dirty := []int{1, 3, 4}
	for _, keep := range keeps(5) {
		d := mixed(t)
		d.Crash(keep)
		checkDirty(t, d, 0)
		for i := range 6 {
			want := pattern(100 + i)
			if place := slices.Index(dirty, i); place >= 0 && place < len(keep) && keep[place] {
				want = pattern(200 + i)
			}
			checkRead(t, d, i, want)
		}
		after := look(d)
		d.Crash([]bool{true, true, true, true, true, true})
		d.Flush()
		if !look(d).same(after) {
			t.Errorf("keep %v: a second crash changed something", keep)
		}
	}
}

// P6.2: blocks that were not written have no element, neither those in front nor those behind.
func TestCrashCountsWrittenBlocks(t *testing.T) {
	for only := range 8 {
		for place := range 8 {
			keep := make([]bool, 8)
			keep[place] = true
			d := flushed(t, 8)
			write(t, d, only, pattern(100))
			d.Crash(keep)
			want := pattern(only)
			if place == 0 {
				want = pattern(100)
			}
			checkRead(t, d, only, want)
		}
	}
}

// P6.2: of a block that was written more than once, the last content is kept, or all of them are lost.
func TestCrashOfBlockWrittenAgain(t *testing.T) {
	for _, kept := range []bool{false, true} {
		d := flushed(t, 2)
		for seed := 10; seed < 14; seed++ {
			write(t, d, 1, pattern(seed))
		}
		d.Crash([]bool{kept, !kept})
		if kept {
			checkRead(t, d, 1, pattern(13))
		} else {
			checkRead(t, d, 1, pattern(1))
		}
		checkRead(t, d, 0, pattern(0))
	}
}

// P6.2: the greatest disk, of which each third content is kept.
func TestCrashOfManyBlocks(t *testing.T) {
	d := flushed(t, 512)
	keep := make([]bool, 512)
	for i := range 512 {
		write(t, d, 511-i, pattern(1000+511-i))
		keep[i] = i%3 == 0
	}
	d.Crash(keep)
	for i := range 512 {
		want := pattern(i)
		if keep[i] {
			want = pattern(1000 + i)
		}
		checkRead(t, d, i, want)
	}
}

// Words, P6.1: the past is the content that was read before the last write, whatever became of that write.
func TestPast(t *testing.T) {
	ends := map[string]func(d *Disk){
		"nothing":             func(*Disk) {},
		"a flush":             func(d *Disk) { d.Flush() },
		"a crash":             func(d *Disk) { d.Crash(nil) },
		"a crash that keeps":  func(d *Disk) { d.Crash([]bool{true}) },
		"a flush and a crash": func(d *Disk) { d.Flush(); d.Crash(nil) },
	}
	for name, end := range ends {
		d := newDisk(t, 2)
		write(t, d, 1, pattern(1))
		end(d)
		checkPast(t, d, 1, zeros())
		d = flushed(t, 2)
		write(t, d, 1, pattern(11))
		end(d)
		checkPast(t, d, 1, pattern(1))
		d = flushed(t, 2)
		write(t, d, 1, pattern(11))
		write(t, d, 1, pattern(12))
		end(d)
		checkPast(t, d, 1, pattern(11))
		checkPast(t, d, 0, zeros())
		if t.Failed() {
			t.Fatalf("after a write and %s", name)
		}
	}
}

// P6.1: after a write was lost, the past of the next one is the durable content; a refused write has no past.
func TestPastOfLaterWrites(t *testing.T) {
	d := flushed(t, 1)
	write(t, d, 0, pattern(10))
	d.Crash(nil)
	checkPast(t, d, 0, pattern(0))
	write(t, d, 0, pattern(11))
	checkPast(t, d, 0, pattern(0))
	if err := d.Write(0, pattern(12)[1:]); err != api.ErrArg {
		t.Errorf("a write of 71 bytes: error %d", err)
	}
	checkPast(t, d, 0, pattern(0))
	write(t, d, 0, pattern(11))
	checkPast(t, d, 0, pattern(11))
}

// P6.1, P6.3: what was tampered with is the content that was read, and becomes the past.
func TestPastOfTampered(t *testing.T) {
	d := flushed(t, 3)
	d.Alter(0, 5, 9)
	want := pattern(0)
	want[5] ^= 9
	write(t, d, 0, pattern(10))
	checkPast(t, d, 0, want)
	d.Swap(1, 2)
	write(t, d, 1, pattern(11))
	checkPast(t, d, 1, pattern(2))
	write(t, d, 2, pattern(12))
	d.Back(2)
	checkRead(t, d, 2, pattern(1))
	write(t, d, 2, pattern(13))
	checkPast(t, d, 2, pattern(1))
}

// P6.3: Alter changes the one byte, by exclusive or; twice the same restores it.
func TestAlter(t *testing.T) {
	for _, dirty := range []bool{false, true} {
		d := flushed(t, 3)
		want := pattern(1)
		if dirty {
			want = pattern(50)
			write(t, d, 1, want)
		}
		before := look(d)
		for at := range 72 {
			for _, x := range []byte{1, 2, 127, 128, 255, want[at]} {
				changed := bytes.Clone(want)
				changed[at] ^= x
				if did := d.Alter(1, at, x); did != (x != 0) {
					t.Errorf("Alter(1, %d, %d): got %v", at, x, did)
				}
				checkRead(t, d, 1, changed)
				d.Alter(1, at, x)
				checkRead(t, d, 1, want)
			}
		}
		if !look(d).same(before) {
			t.Errorf("written: %v: Alter changed something else", dirty)
		}
	}
}

// P6.3: Alter refuses blocks and bytes that there are not, and 0, which would change nothing.
func TestAlterRefused(t *testing.T) {
	d := mixed(t)
	for _, i := range append([]int{6, 7}, noBlocks...) {
		for _, at := range []int{-1, 0, 71, 72} {
			if d.Alter(i, at, 1) {
				t.Errorf("Alter(%d, %d, 1): got true", i, at)
			}
		}
	}
	for i := range 6 {
		for _, at := range []int{-1, -72, 72, 73, 144, math.MinInt, math.MaxInt, 1 << 32} {
			if d.Alter(i, at, 1) {
				t.Errorf("Alter(%d, %d, 1): got true", i, at)
			}
		}
		for at := range 72 {
			if d.Alter(i, at, 0) {
				t.Errorf("Alter(%d, %d, 0): got true", i, at)
			}
		}
	}
	checkUnchanged(t, d, "Alter that is refused")
}

// Words: what is altered is the written content, which may be lost, or the durable one, which stays.
func TestAlterAndCrash(t *testing.T) {
	altered := func(b []byte) []byte { b[7] ^= 128; return b }
	for _, keep := range [][]bool{nil, {true}} {
		d := flushed(t, 2)
		write(t, d, 1, pattern(11))
		d.Alter(0, 7, 128)
		d.Alter(1, 7, 128)
		checkDirty(t, d, 1)
		d.Crash(keep)
		checkRead(t, d, 0, altered(pattern(0)))
		if keep == nil {
			checkRead(t, d, 1, pattern(1))
		} else {
			checkRead(t, d, 1, altered(pattern(11)))
		}
	}
	d := flushed(t, 1)
	d.Alter(0, 7, 128)
	write(t, d, 0, pattern(11))
	d.Crash(nil)
	checkRead(t, d, 0, altered(pattern(0)))
}

// P6.3: Swap exchanges what is read of two blocks, in both orders, and nothing else.
func TestSwap(t *testing.T) {
	for i := range 6 {
		for k := range 6 {
			d := mixed(t)
			want := look(d)
			want.read[i], want.read[k] = want.read[k], want.read[i]
			if did := d.Swap(i, k); did != (i != k) {
				t.Errorf("Swap(%d, %d): got %v", i, k, did)
			}
			if !look(d).same(want) {
				t.Errorf("Swap(%d, %d): not just these contents were exchanged", i, k)
			}
			d.Swap(k, i)
			checkUnchanged(t, d, "Swap there and back")
		}
	}
}

// P6.3: Swap refuses blocks that there are not, also as both of them, and one block with itself.
func TestSwapRefused(t *testing.T) {
	d := mixed(t)
	for _, no := range append([]int{6, 7}, noBlocks...) {
		for i := range 6 {
			if d.Swap(i, no) || d.Swap(no, i) {
				t.Errorf("Swap of %d and %d: got true", i, no)
			}
		}
		if d.Swap(no, no) || d.Swap(no, -3) || d.Swap(6, no) {
			t.Errorf("Swap of %d and another block that there is not: got true", no)
		}
	}
	for i := range 6 {
		if d.Swap(i, i) {
			t.Errorf("Swap(%d, %d): got true", i, i)
		}
	}
	checkUnchanged(t, d, "Swap that is refused")
}

// Words: a block stays written or durable when its content is exchanged; a crash loses the written one.
func TestSwapAndCrash(t *testing.T) {
	d := flushed(t, 3)
	write(t, d, 1, pattern(11))
	d.Swap(0, 1)
	checkDirty(t, d, 1)
	d.Crash(nil)
	checkRead(t, d, 0, pattern(11))
	checkRead(t, d, 1, pattern(1))
	d = flushed(t, 3)
	write(t, d, 1, pattern(11))
	d.Swap(1, 0)
	d.Crash([]bool{true})
	checkRead(t, d, 0, pattern(11))
	checkRead(t, d, 1, pattern(0))
	d = flushed(t, 3)
	write(t, d, 0, pattern(10))
	write(t, d, 2, pattern(12))
	d.Swap(0, 2)
	d.Crash([]bool{false, true})
	checkRead(t, d, 0, pattern(0))
	checkRead(t, d, 2, pattern(10))
}

// P6.3: Back exchanges the content that is read and the past, and nothing else.
func TestBack(t *testing.T) {
	for i := range 6 {
		d := mixed(t)
		want := look(d)
		want.read[i], want.past[i] = want.past[i], want.read[i]
		if want.read[i] == want.past[i] {
			t.Fatalf("block %d has no past of its own", i)
		}
		if !d.Back(i) {
			t.Errorf("Back(%d): got false", i)
		}
		if got, err := d.Read(i); err != api.OK || string(got) != want.read[i] {
			t.Errorf("Back(%d): then it is %x, error %d, want %x", i, got, err, want.read[i])
		}
		if !look(d).same(want) {
			t.Errorf("Back(%d): not just this block and its past were exchanged", i)
		}
		if !d.Back(i) {
			t.Errorf("Back(%d) again: got false", i)
		}
		checkUnchanged(t, d, "Back there and back")
	}
}

func TestBackRefused(t *testing.T) {
	d := mixed(t)
	for _, i := range append([]int{6, 7}, noBlocks...) {
		if d.Back(i) {
			t.Errorf("Back(%d): got true", i)
		}
	}
	checkUnchanged(t, d, "Back that is refused")
}

// Words: a written content that was exchanged with its past is lost by a crash, a durable one is not.
func TestBackAndCrash(t *testing.T) {
	d := flushed(t, 2)
	write(t, d, 1, pattern(11))
	write(t, d, 1, pattern(12))
	d.Back(0)
	d.Back(1)
	checkDirty(t, d, 1)
	checkRead(t, d, 0, zeros())
	checkRead(t, d, 1, pattern(11))
	d.Crash(nil)
	checkRead(t, d, 0, zeros())
	checkPast(t, d, 0, pattern(0))
	checkRead(t, d, 1, pattern(1))
	checkPast(t, d, 1, pattern(12))
	d = flushed(t, 1)
	write(t, d, 0, pattern(11))
	d.Back(0)
	d.Crash([]bool{true})
	checkRead(t, d, 0, pattern(0))
	checkPast(t, d, 0, pattern(11))
}

// P6.4: the bytes that are written, and what lies around them, are as they were, and are not kept.
func TestBytesNotChangedNorKept(t *testing.T) {
	room := append(append([]byte{1, 2, 3}, pattern(1)...), 4, 5)
	before := bytes.Clone(room)
	b := room[3:75]
	d := newDisk(t, 2)
	write(t, d, 0, b)
	write(t, d, 1, b)
	d.Alter(0, 3, 77)
	write(t, d, 0, b)
	d.Write(0, room)
	d.Back(0)
	d.Alter(0, 3, 77)
	d.Swap(0, 1)
	d.Flush()
	d.Alter(1, 9, 1)
	d.Crash(nil)
	if !bytes.Equal(room, before) {
		t.Errorf("the memory of the argument: %x, want %x", room, before)
	}
	d = newDisk(t, 3)
	write(t, d, 0, b)
	write(t, d, 1, b)
	write(t, d, 2, b)
	write(t, d, 2, pattern(2))
	clear(room)
	checkRead(t, d, 0, pattern(1))
	checkPast(t, d, 2, pattern(1))
	d.Flush()
	checkRead(t, d, 1, pattern(1))
}

// P6.4: what tells what is kept of a crash is as it was.
func TestKeepNotChangedNorKept(t *testing.T) {
	room := []bool{true, false, true, true, false}
	keep := room[1:4]
	d := mixed(t)
	d.Crash(keep)
	if !slices.Equal(room, []bool{true, false, true, true, false}) {
		t.Errorf("the memory of the argument: %v", room)
	}
	clear(room)
	checkRead(t, d, 1, pattern(101))
	checkRead(t, d, 3, pattern(203))
	checkRead(t, d, 4, pattern(204))
}

// P6.4: a change of what was read is one of the reader's alone, and a change of the disk isn't one of what was read.
func TestResultsAreNewMemory(t *testing.T) {
	d := mixed(t)
	for i := range 6 {
		first, _ := d.Read(i)
		second, _ := d.Read(i)
		want := bytes.Clone(second)
		for at := range first[:cap(first)] {
			first[:cap(first)][at] ^= 255
		}
		if !bytes.Equal(second, want) {
			t.Errorf("block %d: a change of a result changed another one", i)
		}
	}
	checkUnchanged(t, d, "changes of results")
	d = mixed(t)
	durable, _ := d.Read(0)
	written, _ := d.Read(1)
	d.Alter(0, 0, 1)
	d.Alter(1, 0, 1)
	d.Swap(0, 1)
	write(t, d, 1, pattern(300))
	d.Flush()
	if !bytes.Equal(durable, pattern(100)) || !bytes.Equal(written, pattern(201)) {
		t.Errorf("what was read changed with the disk: %x and %x", durable, written)
	}
}

// P6.4: a nil disk has no blocks, and nothing that is done with it panics (R1).
func TestNilDisk(t *testing.T) {
	var d *Disk
	if got := d.Blocks(); got != 0 {
		t.Errorf("Blocks: got %d", got)
	}
	for _, i := range append([]int{0, 1}, noBlocks...) {
		if b, err := d.Read(i); b != nil || err != api.ErrArg {
			t.Errorf("Read(%d): got %x, error %d", i, b, err)
		}
		if err := d.Write(i, pattern(1)); err != api.ErrArg {
			t.Errorf("Write(%d): error %d", i, err)
		}
		if d.Alter(i, 0, 1) || d.Swap(i, i+1) || d.Swap(0, i) || d.Back(i) {
			t.Errorf("block %d: tampered with", i)
		}
	}
	d.Flush()
	d.Crash(nil)
	d.Crash([]bool{true, true})
	checkDirty(t, d, 0)
}

// wordsBlock is a block as the chapter's words give it: written has the written content, if there is one.
type wordsBlock struct {
	durable, past string
	written       []string
}

type wordsDisk []wordsBlock

func newWordsDisk(blocks int) wordsDisk {
	return slices.Repeat(wordsDisk{{durable: string(zeros()), past: string(zeros())}}, blocks)
}

func (w wordsDisk) read(i int) string {
	if len(w[i].written) > 0 {
		return w[i].written[0]
	}
	return w[i].durable
}

func (w wordsDisk) replace(i int, with string) {
	if len(w[i].written) > 0 {
		w[i].written = []string{with}
	} else {
		w[i].durable = with
	}
}

func (w wordsDisk) write(i int, b []byte) {
	w[i].past = w.read(i)
	w[i].written = []string{string(b)}
}

func (w wordsDisk) dirty() []int {
	var list []int
	for i := range w {
		if len(w[i].written) > 0 {
			list = append(list, i)
		}
	}
	return list
}

func (w wordsDisk) crash(keep []bool) {
	for place, i := range w.dirty() {
		if place < len(keep) && keep[place] {
			w[i].durable = w[i].written[0]
		}
		w[i].written = nil
	}
}

func (w wordsDisk) look() seen {
	s := seen{blocks: len(w), dirty: len(w.dirty())}
	for i := range w {
		s.read, s.past = append(s.read, w.read(i)), append(s.past, w[i].past)
	}
	return s
}

func someKeep(source *rand.Rand, most int) []bool {
	keep := make([]bool, source.Intn(most+2))
	for i := range keep {
		keep[i] = source.Intn(2) == 0
	}
	return keep
}

// someStep does the same with both disks, for blocks from -1 to the one behind the last.
func someStep(t *testing.T, d *Disk, w wordsDisk, source *rand.Rand) {
	t.Helper()
	i, k := source.Intn(len(w)+2)-1, source.Intn(len(w)+2)-1
	hasI := i >= 0 && i < len(w)
	did, want := false, hasI
	switch source.Intn(12) {
	case 0:
		d.Flush()
		w.crash(slices.Repeat([]bool{true}, len(w)))
		return
	case 1:
		keep := someKeep(source, len(w))
		d.Crash(keep)
		w.crash(keep)
		return
	case 2:
		at, x := source.Intn(76)-2, byte(source.Intn(4))
		did, want = d.Alter(i, at, x), hasI && at >= 0 && at < 72 && x != 0
		if want {
			b := []byte(w.read(i))
			b[at] ^= x
			w.replace(i, string(b))
		}
	case 3, 4:
		did, want = d.Swap(i, k), hasI && k >= 0 && k < len(w) && i != k
		if want {
			one, other := w.read(i), w.read(k)
			w.replace(i, other)
			w.replace(k, one)
		}
	case 5, 6:
		did = d.Back(i)
		if hasI {
			now := w.read(i)
			w.replace(i, w[i].past)
			w[i].past = now
		}
	default:
		b := pattern(source.Intn(1 << 16))
		did = d.Write(i, b) == api.OK
		if hasI {
			w.write(i, b)
		}
	}
	if did != want {
		t.Fatalf("a step for %d and %d: got %v, want %v", i, k, did, want)
	}
}

// P6.1 to P6.3: many steps of all kinds, held against a disk as the words give it.
func TestManySteps(t *testing.T) {
	for seed := range int64(40) {
		source := rand.New(rand.NewSource(seed))
		blocks := 1 + source.Intn(9)
		d, w := newDisk(t, blocks), newWordsDisk(blocks)
		for step := range 400 {
			someStep(t, d, w, source)
			if !look(d).same(w.look()) {
				t.Fatalf("seed %d, step %d: got %x, want %x", seed, step, look(d), w.look())
			}
		}
	}
}

// P6.5: what was flushed stays through a crash, whatever is done with other blocks, and however often it crashes.
func TestFlushedStays(t *testing.T) {
	for seed := range int64(100) {
		source := rand.New(rand.NewSource(seed))
		d := flushed(t, 10)
		for range 30 {
			i := 5 + source.Intn(5)
			switch source.Intn(5) {
			case 0:
				d.Crash(someKeep(source, 10))
			case 1:
				d.Alter(i, source.Intn(72), 3)
			case 2:
				d.Swap(i, 5+source.Intn(5))
			case 3:
				d.Back(i)
			default:
				write(t, d, i, pattern(1000+source.Intn(1000)))
			}
			for i := range 5 {
				checkRead(t, d, i, pattern(i))
			}
		}
		d.Crash(someKeep(source, 10))
		for i := range 5 {
			checkRead(t, d, i, pattern(i))
		}
	}
}

// R4: a disk depends on what was done with it alone, whatever other disks do at the same time.
func TestDisksAreApart(t *testing.T) {
	disks := make([]*Disk, 32)
	var wait sync.WaitGroup
	for n := range disks {
		disks[n] = newDisk(t, 6)
		wait.Go(func() {
			source := rand.New(rand.NewSource(int64(n)))
			for range 300 {
				disks[n].Write(source.Intn(6), pattern(source.Intn(1000)))
				disks[n].Back(source.Intn(6))
				disks[n].Crash(someKeep(source, 6))
			}
		})
	}
	wait.Wait()
	for n, d := range disks {
		w := newWordsDisk(6)
		source := rand.New(rand.NewSource(int64(n)))
		for range 300 {
			i := source.Intn(6)
			w.write(i, pattern(source.Intn(1000)))
			i = source.Intn(6)
			now := w.read(i)
			w.replace(i, w[i].past)
			w[i].past = now
			w.crash(someKeep(source, 6))
		}
		if !look(d).same(w.look()) {
			t.Errorf("disk %d: got %x, want %x", n, look(d), w.look())
		}
	}
}
