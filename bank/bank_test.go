package bank

import (
	"bytes"
	libraryBlocks "crypto/aes"
	"crypto/cipher"
	libraryTags "crypto/hmac"
	"crypto/sha256"
	"encoding/binary"
	"fmt"
	"math"
	"math/rand"
	"slices"
	"sync"
	"testing"

	"padlock/api"
	"padlock/disk"
	"padlock/hmac"
	"padlock/seal"
)

// sizes are numbers of blocks: the least and the greatest, those around the powers of 4, and others.
var sizes = []int{8, 9, 15, 16, 17, 20, 63, 64, 65, 100, 127, 128}

// wrongSizes are none, whatever the disk is.
var wrongSizes = []int{0, 1, 4, 7, -1, -8, 129, 130, 256, 512, 1 << 16, 1 << 32, 1<<32 + 8, 1<<62 + 8, math.MinInt32, math.MaxInt32, math.MinInt, math.MinInt + 8, math.MaxInt}

// wrongBlocks are no block of any bank.
var wrongBlocks = []int{-1, -2, -8, -128, 128, 129, 255, 256, 1 << 16, 1 << 32, math.MinInt32, math.MaxInt32, math.MinInt, math.MinInt + 1, math.MaxInt}

func someKeys() seal.Keys {
	return seal.Derive([]byte("secret"))
}

func otherKeys() seal.Keys {
	return seal.Derive([]byte("another secret"))
}

func zeros() []byte {
	return make([]byte, 64)
}

// pattern returns a block without much order, and other ones for another seed.
func pattern(seed int) []byte {
	first := sha256.Sum256(binary.BigEndian.AppendUint64([]byte("pattern"), uint64(seed)))
	second := sha256.Sum256(first[:])
	return append(first[:], second[:]...)
}

// list returns n blocks, and others for another seed.
func list(n, seed int) [][]byte {
	var l [][]byte
	for i := range n {
		l = append(l, pattern(1000*seed+i))
	}
	return l
}

func listOfZeros(n int) [][]byte {
	var l [][]byte
	for range n {
		l = append(l, zeros())
	}
	return l
}

func same(one, other [][]byte) bool {
	return slices.EqualFunc(one, other, bytes.Equal)
}

// joined is the tag of the parts, as chapter 2 says it, by the library of the language.
func joined(key []byte, parts ...[]byte) hmac.Tag {
	h := libraryTags.New(sha256.New, key)
	for _, part := range parts {
		h.Write(binary.BigEndian.AppendUint32(nil, uint32(len(part))))
		h.Write(part)
	}
	return hmac.Tag(h.Sum(nil))
}

// sealedByWords is a block as chapter 7 seals it, by the library of the language.
func sealedByWords(k seal.Keys, i int, epoch uint64, plain []byte) []byte {
	c, err := libraryBlocks.NewCipher(k.Enc[:])
	if err != nil {
		panic(err)
	}
	nonce := binary.BigEndian.AppendUint64(binary.BigEndian.AppendUint32(nil, uint32(i)), epoch)
	hidden := make([]byte, len(plain))
	cipher.NewCTR(c, append(nonce, 0, 0, 0, 0)).XORKeyStream(hidden, plain)
	return append(binary.BigEndian.AppendUint64(nil, epoch), hidden...)
}

// sealedList is what a bank of these blocks has on the disk at an epoch.
func sealedList(k seal.Keys, epoch uint64, blocks [][]byte) [][]byte {
	var l [][]byte
	for i, plain := range blocks {
		l = append(l, sealedByWords(k, i, epoch, plain))
	}
	return l
}

// rootByWords is the root of the bank that these sealed blocks are, by the library of the language.
func rootByWords(k seal.Keys, raws [][]byte) hmac.Tag {
	var level []hmac.Tag
	for i, raw := range raws {
		level = append(level, joined(k.Mac[:], []byte("leaf"), binary.BigEndian.AppendUint32(nil, uint32(i)), raw))
	}
	room := 4
	for room < len(level) {
		room *= 4
	}
	level = append(level, make([]hmac.Tag, room-len(level))...)
	for len(level) > 1 {
		var next []hmac.Tag
		for four := range slices.Chunk(level, 4) {
			next = append(next, joined(k.Mac[:], []byte("node"), four[0][:], four[1][:], four[2][:], four[3][:]))
		}
		level = next
	}
	return level[0]
}

// regByWords is the register of these blocks at an epoch.
func regByWords(k seal.Keys, epoch uint64, bank int, blocks [][]byte) Reg {
	return Reg{Epoch: epoch, Bank: bank, Root: rootByWords(k, sealedList(k, epoch, blocks))}
}

func newDisk(t *testing.T, blocks int) *disk.Disk {
	t.Helper()
	d, err := disk.New(blocks)
	if err != api.OK {
		t.Fatalf("disk.New(%d): error %d", blocks, err)
	}
	return d
}

// formatted returns a new disk, and the bank of n blocks on it.
func formatted(t *testing.T, k seal.Keys, n int) (*disk.Disk, *Bank) {
	t.Helper()
	d := newDisk(t, 2*n)
	b, err := Format(d, k, n)
	if b == nil || err != api.OK {
		t.Fatalf("Format of %d blocks: got %v, error %d", n, b, err)
	}
	return d, b
}

func mounted(t *testing.T, d *disk.Disk, k seal.Keys, n int, r Reg) *Bank {
	t.Helper()
	b, err := Mount(d, k, n, r)
	if b == nil || err != api.OK {
		t.Fatalf("Mount of %d blocks at epoch %d, bank %d: got %v, error %d", n, r.Epoch, r.Bank, b, err)
	}
	return b
}

func checkNotMounted(t *testing.T, d *disk.Disk, k seal.Keys, n int, r Reg, want api.Errno, what string) {
	t.Helper()
	if b, err := Mount(d, k, n, r); b != nil || err != want {
		t.Errorf("Mount %s: got %v, error %d, want error %d", what, b, err, want)
	}
}

func begin(t *testing.T, b *Bank, blocks [][]byte) {
	t.Helper()
	if err := b.Begin(blocks); err != api.OK {
		t.Fatalf("Begin of %d blocks: error %d", len(blocks), err)
	}
}

func checkBegin(t *testing.T, b *Bank, blocks [][]byte, want api.Errno, what string) {
	t.Helper()
	if err := b.Begin(blocks); err != want {
		t.Errorf("Begin %s: got error %d, want error %d", what, err, want)
	}
}

func checkStep(t *testing.T, b *Bank, want bool, wantErr api.Errno) {
	t.Helper()
	if got, err := b.Step(); got != want || err != wantErr {
		t.Errorf("Step: got %v, error %d, want %v, error %d", got, err, want, wantErr)
	}
}

func checkBusy(t *testing.T, b *Bank, want bool) {
	t.Helper()
	if got := b.Busy(); got != want {
		t.Errorf("Busy: got %v, want %v", got, want)
	}
}

// stepOn does so many steps, none of which may be the last one.
func stepOn(t *testing.T, b *Bank, steps int) {
	t.Helper()
	for range steps {
		checkStep(t, b, false, api.OK)
	}
}

// commitAll commits n blocks in n + 2 steps.
func commitAll(t *testing.T, b *Bank, blocks [][]byte) {
	t.Helper()
	begin(t, b, blocks)
	stepOn(t, b, len(blocks)+1)
	checkStep(t, b, true, api.OK)
}

func checkReg(t *testing.T, b *Bank, want Reg) {
	t.Helper()
	if got := b.Reg(); got != want {
		t.Errorf("Reg: got epoch %d, bank %d, root %x, want %d, %d, %x", got.Epoch, got.Bank, got.Root, want.Epoch, want.Bank, want.Root)
	}
}

func checkRead(t *testing.T, b *Bank, i int, want []byte) {
	t.Helper()
	if got, err := b.Read(i); err != api.OK || !bytes.Equal(got, want) {
		t.Errorf("Read(%d): got %x, error %d, want %x", i, got, err, want)
	}
}

func checkNotRead(t *testing.T, b *Bank, i int, want api.Errno) {
	t.Helper()
	if got, err := b.Read(i); len(got) != 0 || err != want {
		t.Errorf("Read(%d): got %x, error %d, want error %d", i, got, err, want)
	}
}

func checkBlocks(t *testing.T, b *Bank, want [][]byte) {
	t.Helper()
	for i, block := range want {
		checkRead(t, b, i, block)
	}
	checkNotRead(t, b, len(want), api.ErrArg)
}

// contents returns what is read of some blocks of a disk.
func contents(t *testing.T, d *disk.Disk, from, many int) [][]byte {
	t.Helper()
	var l [][]byte
	for i := from; i < from+many; i++ {
		raw, err := d.Read(i)
		if err != api.OK {
			t.Fatalf("Read(%d) of the disk: error %d", i, err)
		}
		l = append(l, raw)
	}
	return l
}

// filledDisk returns a disk whose blocks all have contents that were flushed, and other ones that were not.
func filledDisk(t *testing.T, blocks int) *disk.Disk {
	t.Helper()
	d := newDisk(t, blocks)
	for round := range 2 {
		d.Flush()
		for i := range blocks {
			d.Write(i, append(pattern(blocks*round+i), "12345678"...))
		}
	}
	return d
}

// flips returns a choice of what a crash keeps of so many blocks: none, all, one of them, and some by chance.
func flips(many int, random *rand.Rand) [][]bool {
	l := [][]bool{nil, slices.Repeat([]bool{true}, many)}
	for _, i := range []int{0, many / 2, many - 1} {
		if i >= 0 {
			one := make([]bool, i+1)
			one[i] = true
			l = append(l, one)
		}
	}
	for range 2 {
		some := make([]bool, many)
		for i := range some {
			some[i] = random.Intn(2) == 0
		}
		l = append(l, some)
	}
	return l
}

// The chapter's example.
func TestExample(t *testing.T) {
	for _, n := range sizes {
		_, b := formatted(t, someKeys(), n)
		if r := b.Reg(); r.Epoch != 1 || r.Bank != 0 {
			t.Errorf("after Format of %d blocks: epoch %d, bank %d", n, r.Epoch, r.Bank)
		}
		begin(t, b, list(n, 1))
		steps := 0
		for b.Busy() {
			b.Step()
			steps++
		}
		if steps != n+2 {
			t.Errorf("a commit of %d blocks took %d steps", n, steps)
		}
	}
}

// P11.1: what Format leaves on the disk and in the register, held against the words by the library of the language.
func TestFormat(t *testing.T) {
	for _, n := range sizes {
		for _, k := range []seal.Keys{someKeys(), otherKeys(), {}} {
			d := filledDisk(t, 2*n)
			before := contents(t, d, n, n)
			b, err := Format(d, k, n)
			if b == nil || err != api.OK {
				t.Fatalf("Format of %d blocks: got %v, error %d", n, b, err)
			}
			checkReg(t, b, regByWords(k, 1, 0, listOfZeros(n)))
			checkBlocks(t, b, listOfZeros(n))
			checkBusy(t, b, false)
			checkStep(t, b, false, api.ErrNone)
			if !same(contents(t, d, 0, n), sealedList(k, 1, listOfZeros(n))) {
				t.Errorf("Format of %d blocks: bank 0 has not what it should", n)
			}
			if !same(contents(t, d, n, n), before) {
				t.Errorf("Format of %d blocks: bank 1 was changed", n)
			}
		}
	}
}

// P11.1: Format flushes the disk, so that no crash loses anything.
func TestFormatFlushes(t *testing.T) {
	for _, n := range sizes {
		d := filledDisk(t, 2*n)
		b, _ := Format(d, someKeys(), n)
		if d.Dirty() != 0 {
			t.Errorf("Format of %d blocks: %d blocks are not flushed", n, d.Dirty())
		}
		d.Crash(nil)
		checkBlocks(t, b, listOfZeros(n))
		checkBlocks(t, mounted(t, d, someKeys(), n, b.Reg()), listOfZeros(n))
	}
}

// P11.1: the numbers of blocks, and the disks, with which nothing is formatted nor mounted.
func TestWrongSizes(t *testing.T) {
	k := someKeys()
	var disks []*disk.Disk
	for _, blocks := range []int{1, 7, 14, 15, 16, 17, 128, 255, 256, 257, 258, 260, 512} {
		disks = append(disks, filledDisk(t, blocks))
	}
	disks = append(disks, nil, &disk.Disk{})
	for _, d := range disks {
		before, dirty := contents(t, d, 0, d.Blocks()), d.Dirty()
		for _, n := range append(slices.Clone(wrongSizes), sizes...) {
			if n >= 8 && n <= 128 && d.Blocks() == 2*n {
				continue
			}
			if b, err := Format(d, k, n); b != nil || err != api.ErrArg {
				t.Errorf("Format of %d blocks on a disk of %d: got %v, error %d", n, d.Blocks(), b, err)
			}
			what := fmt.Sprintf("of %d blocks on a disk of %d", n, d.Blocks())
			checkNotMounted(t, d, k, n, Reg{Epoch: 1}, api.ErrArg, what)
		}
		if !same(contents(t, d, 0, d.Blocks()), before) || d.Dirty() != dirty {
			t.Errorf("a disk of %d blocks was changed", d.Blocks())
		}
	}
}

// P11.1: a number of blocks that is not the disk's own is refused, though it would be valid on another disk.
func TestMountOfOtherSize(t *testing.T) {
	d, b := formatted(t, someKeys(), 16)
	for _, n := range []int{8, 15, 17, 32, 128} {
		checkNotMounted(t, d, someKeys(), n, b.Reg(), api.ErrArg, fmt.Sprintf("of %d blocks instead of 16", n))
	}
	checkBlocks(t, mounted(t, d, someKeys(), 16, b.Reg()), listOfZeros(16))
}

// P11.1: a mounted bank has the register and the blocks, in either bank, and nothing is written.
func TestMount(t *testing.T) {
	for _, n := range sizes {
		k := someKeys()
		d, b := formatted(t, k, n)
		want := listOfZeros(n)
		for epoch := uint64(1); epoch <= 4; epoch++ {
			before := contents(t, d, 0, 2*n)
			m := mounted(t, d, k, n, b.Reg())
			checkReg(t, m, regByWords(k, epoch, int(epoch-1)%2, want))
			checkBlocks(t, m, want)
			checkBusy(t, m, false)
			checkStep(t, m, false, api.ErrNone)
			if !same(contents(t, d, 0, 2*n), before) || d.Dirty() != 0 {
				t.Errorf("Mount of %d blocks: the disk was changed", n)
			}
			want = list(n, int(epoch))
			commitAll(t, m, want)
			b = m
		}
	}
}

// P11.1: registers that are none, also where the root is right.
func TestMountOfWrongRegister(t *testing.T) {
	d, b := formatted(t, someKeys(), 8)
	good := b.Reg()
	for _, bank := range []int{-1, 2, 3, -2, 8, 16, 1 << 32, 1<<32 + 1, math.MinInt32, math.MinInt, math.MaxInt} {
		r := good
		r.Bank = bank
		checkNotMounted(t, d, someKeys(), 8, r, api.ErrArg, fmt.Sprintf("of bank %d", bank))
	}
	for bank := range 2 {
		r := good
		r.Epoch, r.Bank = 0, bank
		checkNotMounted(t, d, someKeys(), 8, r, api.ErrArg, "at epoch 0")
	}
	checkNotMounted(t, d, someKeys(), 8, Reg{}, api.ErrArg, "of a zero register")
	checkNotMounted(t, d, someKeys(), 8, Reg{Epoch: 1, Bank: 2}, api.ErrArg, "of bank 2 with no root")
}

// P11.1: ErrIntegrity, if what the register tells of is not on the disk.
func TestMountOfNoSuchBank(t *testing.T) {
	for _, n := range []int{8, 17, 128} {
		k := someKeys()
		d, b := formatted(t, k, n)
		good := b.Reg()
		other := good
		other.Bank = 1
		checkNotMounted(t, d, k, n, other, api.ErrIntegrity, "of the other bank")
		for _, at := range []int{0, 1, 15, 31} {
			for bit := range 8 {
				other = good
				other.Root[at] ^= 1 << bit
				checkNotMounted(t, d, k, n, other, api.ErrIntegrity, "with another root")
			}
		}
		checkNotMounted(t, d, k, n, Reg{Epoch: 1}, api.ErrIntegrity, "with no root")
		checkNotMounted(t, d, otherKeys(), n, good, api.ErrIntegrity, "with other keys")
		checkNotMounted(t, newDisk(t, 2*n), k, n, good, api.ErrIntegrity, "of a disk without a bank")
		commitAll(t, b, list(n, 1))
		checkBlocks(t, mounted(t, d, k, n, good), listOfZeros(n))
		commitAll(t, b, list(n, 2))
		checkNotMounted(t, d, k, n, good, api.ErrIntegrity, "of what was written over")
	}
}

// P11.1: the words hold the root alone against the register, so the epoch of it may be another one.
// The next commit is at the epoch after it.
func TestMountAtOtherEpoch(t *testing.T) {
	k := someKeys()
	for _, epoch := range []uint64{2, 7, 255, 256, math.MaxUint32, math.MaxUint32 + 1, 1 << 63, math.MaxUint64 - 1} {
		d, b := formatted(t, k, 8)
		r := b.Reg()
		r.Epoch = epoch
		m := mounted(t, d, k, 8, r)
		checkReg(t, m, r)
		checkBlocks(t, m, listOfZeros(8))
		commitAll(t, m, list(8, 1))
		checkReg(t, m, regByWords(k, epoch+1, 1, list(8, 1)))
		checkBlocks(t, mounted(t, d, k, 8, m.Reg()), list(8, 1))
	}
}

// R1: after the last epoch, too, every call returns.
func TestLastEpoch(t *testing.T) {
	d, b := formatted(t, someKeys(), 8)
	r := b.Reg()
	r.Epoch = math.MaxUint64
	m := mounted(t, d, someKeys(), 8, r)
	commitAll(t, m, list(8, 1))
	checkReg(t, m, regByWords(someKeys(), 0, 1, list(8, 1)))
	checkBlocks(t, m, list(8, 1))
}

// P11.1: each byte of the register's bank counts for Mount, and none of the other one.
func TestMountDetectsChanges(t *testing.T) {
	k := someKeys()
	d, b := formatted(t, k, 9)
	for _, from := range []int{0, 9} {
		for i := range 18 {
			for _, at := range []int{0, 7, 8, 9, 40, 71} {
				d.Alter(i, at, 1<<(at%8))
				if i >= from && i < from+9 {
					checkNotMounted(t, d, k, 9, b.Reg(), api.ErrIntegrity, fmt.Sprintf("with byte %d of block %d altered", at, i))
				} else {
					mounted(t, d, k, 9, b.Reg())
				}
				d.Alter(i, at, 1<<(at%8))
			}
		}
		mounted(t, d, k, 9, b.Reg())
		commitAll(t, b, list(9, 1))
	}
}

// P11.1: blocks that are at another place, or of another epoch, are no bank.
func TestMountDetectsMoves(t *testing.T) {
	k := someKeys()
	d, b := formatted(t, k, 8)
	for round := range 4 {
		commitAll(t, b, listOfZeros(8))
		from := 8 * b.Reg().Bank
		for _, pair := range [][2]int{{0, 1}, {0, 7}, {3, 4}, {0, 8}, {7, 15}, {2, 11}} {
			one, other := (from+pair[0])%16, (from+pair[1])%16
			d.Swap(one, other)
			checkNotMounted(t, d, k, 8, b.Reg(), api.ErrIntegrity, fmt.Sprintf("with blocks %d and %d swapped, round %d", one, other, round))
			d.Swap(one, other)
		}
		for i := range 8 {
			d.Back(from + i)
			checkNotMounted(t, d, k, 8, b.Reg(), api.ErrIntegrity, fmt.Sprintf("with block %d as it was before, round %d", i, round))
			d.Back(from + i)
		}
		mounted(t, d, k, 8, b.Reg())
	}
}

// P11.2: blocks that there are not, also where the other bank has blocks.
func TestReadOfNoBlock(t *testing.T) {
	for _, n := range sizes {
		_, b := formatted(t, someKeys(), n)
		for range 2 {
			for _, i := range append(slices.Clone(wrongBlocks), n, n+1, 2*n-1, 2*n, -n) {
				checkNotRead(t, b, i, api.ErrArg)
			}
			commitAll(t, b, list(n, 1))
		}
	}
}

// P11.2: a block that was changed is not read, and all others are; it is read again when the change is taken back.
func TestReadDetectsChanges(t *testing.T) {
	d, b := formatted(t, someKeys(), 8)
	want := listOfZeros(8)
	for round := range 3 {
		from := 8 * b.Reg().Bank
		for i := range 8 {
			for at := range 72 {
				d.Alter(from+i, at, byte(1+at+i))
				checkNotRead(t, b, i, api.ErrIntegrity)
				checkRead(t, b, (i+1)%8, want[(i+1)%8])
				d.Alter(from+i, at, byte(1+at+i))
			}
			d.Alter(8-from+i, 9, 255)
			checkRead(t, b, i, want[i])
		}
		want = list(8, round)
		commitAll(t, b, want)
	}
}

// P11.2: a block is no other block, neither another one of its bank, nor that of another epoch.
func TestReadDetectsMoves(t *testing.T) {
	d, b := formatted(t, someKeys(), 8)
	commitAll(t, b, listOfZeros(8))
	commitAll(t, b, listOfZeros(8))
	for i := range 8 {
		d.Swap(i, 8+i)
		checkNotRead(t, b, i, api.ErrIntegrity)
		d.Swap(i, 8+i)
		d.Swap(i, (i+1)%8)
		checkNotRead(t, b, i, api.ErrIntegrity)
		checkNotRead(t, b, (i+1)%8, api.ErrIntegrity)
		d.Swap(i, (i+1)%8)
		d.Back(i)
		checkNotRead(t, b, i, api.ErrIntegrity)
		d.Back(i)
	}
	checkBlocks(t, b, listOfZeros(8))
	checkReg(t, b, regByWords(someKeys(), 3, 0, listOfZeros(8)))
}

// P11.2: lists that are not n blocks of 64 bytes; nothing is begun with them.
func TestBeginOfWrongBlocks(t *testing.T) {
	for _, n := range []int{8, 20, 128} {
		d, b := formatted(t, someKeys(), n)
		before, reg := contents(t, d, 0, 2*n), b.Reg()
		checkBegin(t, b, nil, api.ErrArg, "of nil")
		for _, many := range []int{0, 1, 7, n - 1, n + 1, 2 * n} {
			if many != n {
				checkBegin(t, b, list(many, 1), api.ErrArg, fmt.Sprintf("of %d blocks instead of %d", many, n))
			}
		}
		checkBegin(t, b, make([][]byte, n), api.ErrArg, "of nil blocks")
		for _, size := range []int{0, 1, 63, 65, 72, 128, 320} {
			for _, i := range []int{0, 3, n - 1} {
				blocks := list(n, 1)
				blocks[i] = make([]byte, size)
				checkBegin(t, b, blocks, api.ErrArg, fmt.Sprintf("with %d bytes in block %d", size, i))
			}
		}
		checkBusy(t, b, false)
		checkStep(t, b, false, api.ErrNone)
		checkReg(t, b, reg)
		if !same(contents(t, d, 0, 2*n), before) || d.Dirty() != 0 {
			t.Errorf("the disk of %d blocks was changed", n)
		}
		commitAll(t, b, list(n, 1))
		checkBlocks(t, b, list(n, 1))
	}
}

// P11.2: ErrBusy as long as a commit is in progress, whatever the blocks are; the commit goes on as if nothing had been asked.
func TestBeginWhileBusy(t *testing.T) {
	_, b := formatted(t, someKeys(), 8)
	begin(t, b, list(8, 1))
	for steps := range 10 {
		checkBegin(t, b, list(8, 2), api.ErrBusy, fmt.Sprintf("after %d steps", steps))
		checkBegin(t, b, nil, api.ErrBusy, fmt.Sprintf("of nil after %d steps", steps))
		checkBegin(t, b, list(9, 2), api.ErrBusy, fmt.Sprintf("of 9 blocks after %d steps", steps))
		checkBusy(t, b, true)
		checkStep(t, b, steps == 9, api.OK)
	}
	checkBusy(t, b, false)
	checkBlocks(t, b, list(8, 1))
	commitAll(t, b, list(8, 2))
	checkBlocks(t, b, list(8, 2))
}

// P11.2: what each step of a commit does, to the disk, the register, and what is read.
func TestStep(t *testing.T) {
	for _, n := range []int{8, 17, 64, 128} {
		k := someKeys()
		d, b := formatted(t, k, n)
		old := listOfZeros(n)
		for round := range 3 {
			next := list(n, round)
			reg, from := b.Reg(), (1-b.Reg().Bank)*n
			sealed, before := sealedList(k, reg.Epoch+1, next), contents(t, d, 0, 2*n)
			begin(t, b, next)
			for steps := range n + 2 {
				written := min(steps, n)
				want := slices.Clone(before)
				copy(want[from:], sealed[:written])
				if !same(contents(t, d, 0, 2*n), want) {
					t.Fatalf("%d blocks, %d steps: the disk has not what it should", n, steps)
				}
				if dirty := d.Dirty(); steps <= n && dirty != written || steps > n && dirty != 0 {
					t.Errorf("%d blocks, %d steps: %d blocks are not flushed", n, steps, dirty)
				}
				checkBusy(t, b, true)
				checkReg(t, b, reg)
				for _, i := range []int{0, steps % n, n - 1} {
					checkRead(t, b, i, old[i])
				}
				checkStep(t, b, steps == n+1, api.OK)
			}
			checkBusy(t, b, false)
			checkStep(t, b, false, api.ErrNone)
			checkReg(t, b, regByWords(k, reg.Epoch+1, 1-reg.Bank, next))
			checkBlocks(t, b, next)
			old = next
		}
	}
}

// P11.2: the root is that of what was written, not of what is on the disk at the end: what was tampered with meanwhile is not read.
func TestTamperingDuringCommit(t *testing.T) {
	k := someKeys()
	for steps := 1; steps <= 9; steps++ {
		d, b := formatted(t, k, 8)
		begin(t, b, list(8, 1))
		stepOn(t, b, steps)
		i := min(steps, 8) - 1
		d.Alter(8+i, 20, 4)
		stepOn(t, b, 9-steps)
		checkStep(t, b, true, api.OK)
		checkReg(t, b, regByWords(k, 2, 1, list(8, 1)))
		checkNotRead(t, b, i, api.ErrIntegrity)
		checkRead(t, b, (i+1)%8, list(8, 1)[(i+1)%8])
		checkNotMounted(t, d, k, 8, b.Reg(), api.ErrIntegrity, "of what was tampered with during the commit")
	}
}

// P11.2: tampering before a block is written is written over, and tampering with the register's bank is detected on the way.
func TestTamperingBeforeWrite(t *testing.T) {
	d, b := formatted(t, someKeys(), 8)
	begin(t, b, list(8, 1))
	stepOn(t, b, 3)
	for i := 3; i < 8; i++ {
		d.Alter(8+i, i, 1)
	}
	d.Alter(2, 0, 1)
	checkNotRead(t, b, 2, api.ErrIntegrity)
	checkRead(t, b, 3, zeros())
	stepOn(t, b, 6)
	checkStep(t, b, true, api.OK)
	checkBlocks(t, b, list(8, 1))
}

// checkNothing holds a bank against what there is of a bank that is nil.
func checkNothing(t *testing.T, b *Bank) {
	t.Helper()
	for range 2 {
		checkReg(t, b, Reg{})
		for _, i := range append(slices.Clone(wrongBlocks), 0, 1, 7) {
			checkNotRead(t, b, i, api.ErrArg)
		}
		for _, blocks := range [][][]byte{nil, {}, list(1, 1), list(8, 1), list(128, 1)} {
			checkBegin(t, b, blocks, api.ErrArg, "of no bank")
		}
		checkStep(t, b, false, api.ErrNone)
		checkBusy(t, b, false)
	}
}

// P11.2: a nil bank.
func TestNilBank(t *testing.T) {
	checkNothing(t, nil)
}

// R1: no call panics, though a bank that was not formatted or mounted is not promised anything.
func TestBankFromElsewhere(t *testing.T) {
	checkNothing(t, &Bank{})
}

// P11.3: the list of Begin, and its blocks, are neither changed nor kept.
func TestBlocksAreNotKept(t *testing.T) {
	for _, steps := range []int{0, 1, 5, 8, 9} {
		d, b := formatted(t, someKeys(), 8)
		blocks := list(8, 1)
		begin(t, b, blocks)
		stepOn(t, b, steps)
		for i := range blocks {
			for at := range blocks[i] {
				blocks[i][at] ^= 255
			}
			blocks[i] = nil
		}
		stepOn(t, b, 9-steps)
		checkStep(t, b, true, api.OK)
		checkBlocks(t, b, list(8, 1))
		checkBlocks(t, mounted(t, d, someKeys(), 8, b.Reg()), list(8, 1))
	}
	_, b := formatted(t, someKeys(), 8)
	room := list(9, 1)
	commitAll(t, b, room[:8])
	if !same(room, list(9, 1)) {
		t.Error("a commit changed its argument")
	}
}

// P11.3: what lies behind the blocks of Begin in their memory is not touched either.
func TestRoomBehindBlocks(t *testing.T) {
	_, b := formatted(t, someKeys(), 8)
	memory := bytes.Repeat([]byte{7}, 8*100)
	var blocks [][]byte
	for i := range 8 {
		blocks = append(blocks, memory[100*i:100*i+64])
	}
	commitAll(t, b, blocks)
	if !bytes.Equal(memory, bytes.Repeat([]byte{7}, 8*100)) {
		t.Error("a commit changed the memory behind its blocks")
	}
	checkRead(t, b, 5, bytes.Repeat([]byte{7}, 64))
}

// P11.3: results are new memory.
func TestResultsAreNew(t *testing.T) {
	d, b := formatted(t, someKeys(), 8)
	commitAll(t, b, list(8, 1))
	for i := range 8 {
		got, _ := b.Read(i)
		for at := range got {
			got[at] ^= 255
		}
		_ = append(got, 1, 2, 3)
	}
	checkBlocks(t, b, list(8, 1))
	r := b.Reg()
	r.Epoch, r.Bank, r.Root[0] = 99, 7, r.Root[0]^1
	checkReg(t, b, regByWords(someKeys(), 2, 1, list(8, 1)))
	checkBlocks(t, mounted(t, d, someKeys(), 8, b.Reg()), list(8, 1))
}

// P11.4: whatever part of a commit was done, and whatever a crash keeps, what is mounted is the last complete commit.
func TestCrashAtEachStep(t *testing.T) {
	random := rand.New(rand.NewSource(1))
	for _, n := range []int{8, 13, 64, 128} {
		k := someKeys()
		for before := range 3 {
			for _, steps := range []int{0, 1, 2, n / 2, n - 1, n, n + 1, n + 2} {
				for _, keep := range flips(min(steps, n), random) {
					d, b := formatted(t, k, n)
					want := listOfZeros(n)
					for c := range before {
						want = list(n, 10+c)
						commitAll(t, b, want)
					}
					begin(t, b, list(n, 20))
					for range steps {
						b.Step()
					}
					epoch := uint64(before + 1)
					if steps == n+2 {
						want, epoch = list(n, 20), epoch+1
					}
					r := b.Reg()
					d.Crash(keep)
					m := mounted(t, d, k, n, r)
					checkReg(t, m, regByWords(k, epoch, int(epoch-1)%2, want))
					checkBlocks(t, m, want)
					checkBusy(t, m, false)
					commitAll(t, m, list(n, 30))
					checkBlocks(t, m, list(n, 30))
					checkBlocks(t, mounted(t, d, k, n, m.Reg()), list(n, 30))
				}
			}
		}
	}
}

// P11.4: a crash keeps any part of the least bank's blocks; all of these parts.
func TestCrashKeepsAnyPart(t *testing.T) {
	k := someKeys()
	for part := range 256 {
		d, b := formatted(t, k, 8)
		commitAll(t, b, list(8, 1))
		begin(t, b, list(8, 2))
		stepOn(t, b, 8)
		var keep []bool
		for i := range 8 {
			keep = append(keep, part>>i&1 == 1)
		}
		d.Crash(keep)
		m := mounted(t, d, k, 8, b.Reg())
		checkBlocks(t, m, list(8, 1))
		commitAll(t, m, list(8, 3))
		d.Crash(nil)
		checkBlocks(t, mounted(t, d, k, 8, m.Reg()), list(8, 3))
	}
}

// P11.4: commits, crashes and tampering by chance: what is read is the last complete commit, or an error.
func TestAnySteps(t *testing.T) {
	for seed := range 40 {
		random := rand.New(rand.NewSource(int64(seed)))
		k, n := someKeys(), 8+random.Intn(12)
		d, b := formatted(t, k, n)
		want := listOfZeros(n)
		next := want
		altered := map[int]byte{} // what must be exclusive-ored with byte 30 of a block to mend it
		for step := range 400 {
			switch random.Intn(12) {
			case 0:
				if !b.Busy() {
					next = list(n, seed*1000+step)
				}
				b.Begin(next)
			case 1:
				if len(altered) == 0 {
					keep := make([]bool, d.Dirty())
					for i := range keep {
						keep[i] = random.Intn(2) == 0
					}
					r := b.Reg()
					d.Crash(keep)
					b = mounted(t, d, k, n, r)
				}
			case 2:
				i, x := b.Reg().Bank*n+random.Intn(n), byte(1+random.Intn(255))
				d.Alter(i, 30, x)
				altered[i] ^= x
			case 3:
				for i, x := range altered {
					d.Alter(i, 30, x)
				}
				altered = map[int]byte{}
			default:
				// What was altered is mended before it ceases to be the register's bank.
				if complete, _ := b.Step(); complete {
					want = next
					for i, x := range altered {
						d.Alter(i, 30, x)
					}
					altered = map[int]byte{}
				}
			}
			for i := range n {
				if altered[b.Reg().Bank*n+i] != 0 {
					checkNotRead(t, b, i, api.ErrIntegrity)
				} else {
					checkRead(t, b, i, want[i])
				}
			}
		}
	}
}

// P11.4: the whole old disk together with the new register is no bank: nothing comes back that was committed over.
func TestOldDiskIsDetected(t *testing.T) {
	k := someKeys()
	d, b := formatted(t, k, 8)
	commitAll(t, b, list(8, 1))
	old := contents(t, d, 0, 16)
	commitAll(t, b, list(8, 2))
	commitAll(t, b, list(8, 3))
	for i, raw := range old {
		d.Write(i, raw)
	}
	d.Flush()
	for i := range 8 {
		checkNotRead(t, b, i, api.ErrIntegrity)
	}
	checkNotMounted(t, d, k, 8, b.Reg(), api.ErrIntegrity, "of an old disk")
}

// Banks on disks of their own don't know of each other.
func TestBanksAreApart(t *testing.T) {
	_, one := formatted(t, someKeys(), 8)
	_, other := formatted(t, otherKeys(), 9)
	begin(t, one, list(8, 1))
	stepOn(t, one, 4)
	checkBusy(t, other, false)
	checkStep(t, other, false, api.ErrNone)
	commitAll(t, other, list(9, 2))
	stepOn(t, one, 5)
	checkStep(t, one, true, api.OK)
	checkBlocks(t, one, list(8, 1))
	checkBlocks(t, other, list(9, 2))
}

// R4: the same steps have the same results, also in several goroutines.
func TestSameFromManyGoroutines(t *testing.T) {
	want := regByWords(someKeys(), 3, 0, list(16, 2))
	var group sync.WaitGroup
	for range 8 {
		group.Go(func() {
			d, _ := disk.New(32)
			b, _ := Format(d, someKeys(), 16)
			for seed := 1; seed <= 2; seed++ {
				b.Begin(list(16, seed))
				for b.Busy() {
					b.Step()
				}
			}
			if b.Reg() != want {
				t.Error("another register")
			}
		})
	}
	group.Wait()
}
