package file

import (
	"bytes"
	"fmt"
	"math"
	"math/big"
	"math/rand"
	"slices"
	"sync"
	"testing"

	"padlock/api"
)

// geometries are valid ones: the edges of both numbers, and those around the numbers of inodes that fill a block.
var geometries = []api.Geometry{
	{Blocks: 8, Inodes: 2}, {Blocks: 8, Inodes: 8}, {Blocks: 8, Inodes: 9}, {Blocks: 8, Inodes: 32},
	{Blocks: 9, Inodes: 7}, {Blocks: 15, Inodes: 16}, {Blocks: 16, Inodes: 17}, {Blocks: 17, Inodes: 24},
	{Blocks: 63, Inodes: 25}, {Blocks: 64, Inodes: 31}, {Blocks: 65, Inodes: 3}, {Blocks: 100, Inodes: 15},
	{Blocks: 127, Inodes: 32}, {Blocks: 128, Inodes: 2}, {Blocks: 128, Inodes: 32},
}

// far are numbers that are neither blocks nor inodes nor bytes of a file; some of them become so when they are cut.
var far = []int{
	math.MinInt, math.MinInt + 1, math.MinInt + 8, math.MinInt + 64, -1 << 32, -1<<32 + 8, -1 << 16, -65536 + 64, -2304, -256,
	2305, 4096, 65536, 65536 + 8, 1<<31 - 1, 1 << 31, 1 << 32, 1<<32 + 8, 1<<32 + 64, 1 << 62, math.MaxInt - 64, math.MaxInt - 1, math.MaxInt,
}

// large is the geometry in which the largest files have room three times.
var large = api.Geometry{Blocks: 128, Inodes: 32}

// sizes are numbers of bytes around those where a block more is needed, up to the largest file.
func sizes() []int {
	var l []int
	for _, blocks := range []int{0, 1, 2, 3, 4, 5, 6, 7, 20, 35, 36} {
		for _, size := range []int{64*blocks - 1, 64 * blocks, 64*blocks + 1, 64*blocks + 30} {
			if size >= 0 && size <= 2304 {
				l = append(l, size)
			}
		}
	}
	return l
}

// needByWords is how many blocks a file needs in all, and how many for its bytes.
func needByWords(size int) (int, int) {
	data := 0
	for 64*data < size {
		data++
	}
	if data > 4 {
		return data + 1, data
	}
	return data, data
}

func firstByWords(g api.Geometry) int {
	first, rest := new(big.Int).DivMod(big.NewInt(int64(g.Inodes)), big.NewInt(8), new(big.Int))
	if rest.Sign() > 0 {
		first.Add(first, big.NewInt(1))
	}
	return int(first.Add(first, big.NewInt(1)).Int64())
}

func mayByWords(g api.Geometry) bool {
	return g.Blocks >= 8 && g.Blocks <= 128 && g.Inodes >= 2 && g.Inodes <= 32 && firstByWords(g) < g.Blocks
}

// spy is a store that counts what is done with it, and that fails once if it is told so. It hands out its own memory,
// so that a change of that is noticed.
type spy struct {
	blocks        [][]byte
	reads, writes int
	failing       int // the call that fails, counted from 1
	code          api.Errno
}

func (s *spy) Read(i int) ([]byte, api.Errno) {
	s.reads++
	if s.reads+s.writes == s.failing {
		return nil, s.code
	}
	if i < 0 || i >= len(s.blocks) {
		return nil, api.ErrArg
	}
	return s.blocks[i], api.OK
}

func (s *spy) Write(i int, b []byte) api.Errno {
	s.writes++
	if s.reads+s.writes == s.failing {
		return s.code
	}
	if i < 0 || i >= len(s.blocks) || len(b) != 64 {
		return api.ErrArg
	}
	s.blocks[i] = bytes.Clone(b)
	return api.OK
}

// newSpy is a store whose blocks below First are taken; in the others there is left what was there before.
func newSpy(g api.Geometry) *spy {
	s := &spy{}
	for i := range g.Blocks {
		s.blocks = append(s.blocks, pattern(i, 64))
	}
	s.blocks[0] = make([]byte, 64)
	for i := range firstByWords(g) {
		s.take(i)
	}
	return s
}

func (s *spy) take(i int) {
	s.blocks[0][i/8] |= 1 << (i % 8)
}

func (s *spy) taken(i int) bool {
	return s.blocks[0][i/8]>>(i%8)&1 == 1
}

// allTaken are the blocks that the bitmap calls taken, in order.
func (s *spy) allTaken() []int {
	var l []int
	for i := range 512 {
		if s.taken(i) {
			l = append(l, i)
		}
	}
	return l
}

// copied is the store, without what was done with it.
func (s *spy) copied() *spy {
	c := &spy{}
	for _, block := range s.blocks {
		c.blocks = append(c.blocks, bytes.Clone(block))
	}
	return c
}

func (s *spy) same(other *spy) bool {
	return slices.EqualFunc(s.blocks, other.blocks, bytes.Equal)
}

// pattern is bytes without much order, none of which is 0, and others for another seed.
func pattern(seed, size int) []byte {
	state := uint64(seed) + 1
	b := make([]byte, size)
	for i := range b {
		state = state*6364136223846793005 + 1442695040888963407
		b[i] = byte(1 + (state>>33)%255)
	}
	return b
}

// blocksByWords are the blocks of a file for its bytes, and all of them.
func blocksByWords(s *spy, in api.Inode) (data, all []int) {
	_, need := needByWords(in.Bytes)
	for i := range need {
		if i < 4 {
			data = append(data, in.Blocks[i])
		} else {
			data = append(data, int(s.blocks[in.Indirect][i-4]))
		}
	}
	all = slices.Clone(data)
	if need > 4 {
		all = append(all, in.Indirect)
	}
	return data, all
}

func bytesByWords(s *spy, in api.Inode) []byte {
	var b []byte
	data, _ := blocksByWords(s, in)
	for _, i := range data {
		b = append(b, s.blocks[i]...)
	}
	return b[:in.Bytes]
}

// lay puts a file into a store by hand, in blocks that chance chooses of those that are not taken.
func lay(s *spy, kind int, content []byte, seed int) api.Inode {
	var free []int
	for i := range s.blocks {
		if !s.taken(i) {
			free = append(free, i)
		}
	}
	rand.New(rand.NewSource(int64(seed))).Shuffle(len(free), func(i, j int) { free[i], free[j] = free[j], free[i] })
	in := api.Inode{Kind: kind, Bytes: len(content)}
	need, data := needByWords(len(content))
	for i := range data {
		s.take(free[i])
		s.blocks[free[i]] = pattern(free[i], 64)
		copy(s.blocks[free[i]], content[64*i:])
		if i < 4 {
			in.Blocks[i] = free[i]
		}
	}
	if need > data {
		in.Indirect = free[data]
		s.take(in.Indirect)
		s.blocks[in.Indirect] = make([]byte, 64)
		for i := range data - 4 {
			s.blocks[in.Indirect][i] = byte(free[4+i])
		}
	}
	return in
}

// checkFile looks at a file by hand: its bytes, and that its blocks exist, are taken, and occur once.
func checkFile(t *testing.T, s *spy, g api.Geometry, in api.Inode, want []byte, what string) {
	t.Helper()
	data, all := blocksByWords(s, in)
	if in.Bytes != len(want) {
		t.Fatalf("%s: the file has %d bytes, want %d", what, in.Bytes, len(want))
	}
	for i := range 4 {
		if i >= len(data) && in.Blocks[i] != 0 {
			t.Fatalf("%s: block %d, which is not needed, is %d", what, i, in.Blocks[i])
		}
	}
	if len(data) <= 4 && in.Indirect != 0 {
		t.Fatalf("%s: there is an indirect block, %d", what, in.Indirect)
	}
	for place, i := range all {
		if i < firstByWords(g) || i >= g.Blocks || !s.taken(i) || slices.Contains(all[:place], i) {
			t.Fatalf("%s: block %d of %v is not one of the file's own", what, i, all)
		}
	}
	if got := bytesByWords(s, in); !bytes.Equal(got, want) {
		t.Fatalf("%s: got bytes %x, want %x", what, got, want)
	}
}

// checkTaken looks whether exactly the blocks below First, and those of the files, are taken, each by one of them.
func checkTaken(t *testing.T, s *spy, g api.Geometry, files []api.Inode, what string) {
	t.Helper()
	var want []int
	for i := range firstByWords(g) {
		want = append(want, i)
	}
	for _, in := range files {
		_, all := blocksByWords(s, in)
		want = append(want, all...)
	}
	slices.Sort(want)
	if got := s.allTaken(); !slices.Equal(got, want) {
		t.Fatalf("%s: the blocks %v are taken, want %v", what, got, want)
	}
}

// resized is the content of a file that was given so many bytes.
func resized(content []byte, size int) []byte {
	b := make([]byte, size)
	copy(b, content)
	return b
}

// overwritten is the content of a file after b was written at off.
func overwritten(content []byte, off int, b []byte) []byte {
	if len(b) == 0 {
		return content
	}
	all := resized(content, max(len(content), off+len(b)))
	copy(all[off:], b)
	return all
}

func checkNoInode(t *testing.T, in api.Inode, err, want api.Errno, what string) {
	t.Helper()
	if err != want || in != (api.Inode{}) {
		t.Errorf("%s: got %v, error %d, want error %d", what, in, err, want)
	}
}

func checkNoBytes(t *testing.T, b []byte, err, want api.Errno, what string) {
	t.Helper()
	if err != want || len(b) != 0 {
		t.Errorf("%s: got %x, error %d, want error %d", what, b, err, want)
	}
}

func checkUntouched(t *testing.T, s, before *spy, what string) {
	t.Helper()
	if s.writes != 0 || !s.same(before) {
		t.Errorf("%s: the store was changed, by %d writes", what, s.writes)
	}
}

// smallFile is an inode for which nothing is needed.
func smallFile() api.Inode {
	return api.Inode{Kind: api.File}
}

// wrongInodes are inodes that are free, or not valid.
func wrongInodes() []api.Inode {
	return []api.Inode{
		{}, {Bytes: 1}, {Indirect: 1}, {Kind: 3}, {Kind: -1}, {Kind: 1<<32 + 1}, {Kind: 1, Bytes: -1}, {Kind: 1, Bytes: 2305}, {Kind: 2, Bytes: math.MinInt},
		{Kind: 1, Bytes: math.MaxInt}, {Kind: 1, Bytes: 1}, {Kind: 1, Blocks: [4]int{2}}, {Kind: 1, Bytes: 1, Blocks: [4]int{128}}, {Kind: 2, Bytes: 1, Blocks: [4]int{-1}},
		{Kind: 1, Bytes: 65, Blocks: [4]int{5, 5}}, {Kind: 1, Bytes: 257, Blocks: [4]int{4, 5, 6, 7}}, {Kind: 1, Bytes: 257, Blocks: [4]int{4, 5, 6, 7}, Indirect: 4},
		{Kind: 1, Bytes: 257, Blocks: [4]int{4, 5, 6, 7}, Indirect: 256 + 8}, {Kind: 1, Bytes: 256, Blocks: [4]int{4, 5, 6, 7}, Indirect: 8}, {Kind: 1, Bytes: 64, Blocks: [4]int{4, 5}},
	}
}

// wrongGeometries are not valid.
func wrongGeometries() []api.Geometry {
	l := []api.Geometry{{}, {Blocks: 7, Inodes: 2}, {Blocks: 129, Inodes: 2}, {Blocks: 8, Inodes: 1}, {Blocks: 8, Inodes: 33}, {Blocks: 8}, {Inodes: 2}, {Blocks: -8, Inodes: -2}}
	for _, number := range far {
		l = append(l, api.Geometry{Blocks: number, Inodes: 2}, api.Geometry{Blocks: 8, Inodes: number}, api.Geometry{Blocks: number, Inodes: number})
	}
	return l
}

// P14.1, the chapter's example.
func TestExample(t *testing.T) {
	g := api.Geometry{Blocks: 8, Inodes: 2}
	m, err := NewMem(g)
	if m == nil || err != api.OK {
		t.Fatalf("NewMem: got %v, error %d", m, err)
	}
	left, err := Left(m, g)
	if First(g) != 2 || left != 6 || err != api.OK {
		t.Errorf("First is %d; %d blocks are left, error %d", First(g), left, err)
	}
	in, err := Resize(m, g, smallFile(), 257)
	if err != api.OK || in.Bytes != 257 {
		t.Fatalf("Resize: got %v, error %d", in, err)
	}
	if left, err = Left(m, g); left != 0 || err != api.OK {
		t.Errorf("after Resize %d blocks are left, error %d", left, err)
	}
}

// P14.1: First for each number of inodes that may be, and for others.
func TestFirst(t *testing.T) {
	written := map[int]int{-9: 0, -8: 0, -7: 1, -1: 1, 0: 1, 1: 2, 2: 2, 7: 2, 8: 2, 9: 3, 16: 3, 17: 4, 24: 4, 25: 5, 32: 5, 33: 6}
	for inodes, want := range written {
		if got := First(api.Geometry{Blocks: 8, Inodes: inodes}); got != want {
			t.Errorf("First for %d inodes: got %d, want %d", inodes, got, want)
		}
	}
	for inodes := -100; inodes <= 300; inodes++ {
		for _, number := range append([]int{inodes}, far...) {
			g := api.Geometry{Blocks: inodes, Inodes: number}
			if got, want := First(g), firstByWords(g); got != want {
				t.Fatalf("First(%v): got %d, want %d", g, got, want)
			}
		}
	}
}

// P14.1: May for all numbers around those that may be, and for far ones.
func TestMay(t *testing.T) {
	for _, g := range geometries {
		if !May(g) {
			t.Errorf("May(%v): got false", g)
		}
	}
	for _, g := range wrongGeometries() {
		if May(g) {
			t.Errorf("May(%v): got true", g)
		}
	}
	for blocks := -3; blocks <= 260; blocks++ {
		for inodes := -3; inodes <= 70; inodes++ {
			g := api.Geometry{Blocks: blocks, Inodes: inodes}
			if got, want := May(g), mayByWords(g); got != want {
				t.Fatalf("May(%v): got %v, want %v", g, got, want)
			}
		}
	}
}

// P14.1: what a new store has.
func TestNewMem(t *testing.T) {
	for _, g := range geometries {
		m, err := NewMem(g)
		if m == nil || err != api.OK {
			t.Fatalf("NewMem(%v): got %v, error %d", g, m, err)
		}
		for i := range g.Blocks {
			want := make([]byte, 64)
			if i == 0 {
				want[0] = 1<<firstByWords(g) - 1
			}
			if b, err := m.Read(i); err != api.OK || !bytes.Equal(b, want) {
				t.Errorf("block %d of NewMem(%v): got %x, error %d", i, g, b, err)
			}
		}
		checkNoBlock(t, m, g.Blocks)
	}
	for _, g := range wrongGeometries() {
		if m, err := NewMem(g); m != nil || err != api.ErrArg {
			t.Errorf("NewMem(%v): got %v, error %d", g, m, err)
		}
	}
}

func checkNoBlock(t *testing.T, m *Mem, i int) {
	t.Helper()
	b, err := m.Read(i)
	checkNoBytes(t, b, err, api.ErrArg, fmt.Sprintf("Read of block %d", i))
	if err := m.Write(i, make([]byte, 64)); err != api.ErrArg {
		t.Errorf("Write of block %d: got error %d", i, err)
	}
}

// P14.1: blocks that there are not, stores that there are not, and blocks of a wrong size.
func TestMemErrors(t *testing.T) {
	for _, g := range geometries {
		m, _ := NewMem(g)
		before, _ := m.Read(0)
		for _, i := range append([]int{-1, -2, -g.Blocks, g.Blocks, g.Blocks + 1, 128, 256}, far...) {
			checkNoBlock(t, m, i)
		}
		for _, size := range []int{0, 1, 8, 63, 65, 72, 128, 64 + 256} {
			for _, i := range []int{0, 1, g.Blocks - 1} {
				if err := m.Write(i, pattern(1, size)); err != api.ErrArg {
					t.Errorf("Write of %d bytes: got error %d", size, err)
				}
			}
		}
		if err := m.Write(0, nil); err != api.ErrArg {
			t.Errorf("Write of nil: got error %d", err)
		}
		if after, _ := m.Read(0); !bytes.Equal(after, before) {
			t.Errorf("calls with errors changed block 0")
		}
	}
	for _, i := range append([]int{-1, 0, 1}, far...) {
		checkNoBlock(t, nil, i)
		checkNoBlock(t, &Mem{}, i)
	}
}

// P14.1, P14.4: each block is on its own; neither what is written nor what is read is shared.
func TestMem(t *testing.T) {
	for _, g := range geometries {
		m, _ := NewMem(g)
		other, _ := NewMem(g)
		for i := range g.Blocks {
			b := pattern(i, 64)
			if err := m.Write(i, b); err != api.OK || !bytes.Equal(b, pattern(i, 64)) {
				t.Fatalf("Write of block %d: error %d", i, err)
			}
			clear(b)
		}
		for range 2 {
			for i := range g.Blocks {
				b, err := m.Read(i)
				if err != api.OK || !bytes.Equal(b, pattern(i, 64)) {
					t.Fatalf("block %d: got %x, error %d", i, b, err)
				}
				clear(b)
			}
		}
		if b, _ := other.Read(g.Blocks - 1); !bytes.Equal(b, make([]byte, 64)) {
			t.Errorf("one store changed another one")
		}
	}
}

// P14.2: how many blocks are left, whichever are taken.
func TestLeft(t *testing.T) {
	source := rand.New(rand.NewSource(2))
	for _, g := range geometries {
		for round := range 40 {
			s := newSpy(g)
			want := 0
			for i := firstByWords(g); i < g.Blocks; i++ {
				if round != 1 && (round == 2 || source.Intn(round+1) == 0) {
					s.take(i)
				} else {
					want++
				}
			}
			before := s.copied()
			if got, err := Left(s, g); got != want || err != api.OK {
				t.Fatalf("Left(%v): got %d, error %d, want %d", g, got, err, want)
			}
			checkUntouched(t, s, before, "Left")
		}
	}
}

// P14.2: the first and the last block that count.
func TestLeftEdges(t *testing.T) {
	for _, g := range geometries {
		first := firstByWords(g)
		for _, i := range []int{first, g.Blocks - 1} {
			s := newSpy(g)
			s.take(i)
			if got, err := Left(s, g); got != g.Blocks-first-1 || err != api.OK {
				t.Errorf("Left(%v) without block %d: got %d, error %d", g, i, got, err)
			}
		}
	}
}

// P14.2, P14.3: what the bitmap has for the blocks below First, and for those that do not exist, does not count.
func TestOtherBits(t *testing.T) {
	for _, g := range geometries {
		for _, bits := range []byte{0, 255} {
			s := newSpy(g)
			s.blocks[0] = bytes.Repeat([]byte{bits}, 64)
			left := 0
			for i := firstByWords(g); i < g.Blocks && bits == 255; i++ {
				if i%2 == 0 {
					s.blocks[0][i/8] ^= 1 << (i % 8)
					left++
				}
			}
			if bits == 0 {
				left = g.Blocks - firstByWords(g)
			}
			if got, err := Left(s, g); got != left || err != api.OK {
				t.Fatalf("Left(%v) with bits %d: got %d, error %d, want %d", g, bits, got, err, left)
			}
			in, err := Resize(s, g, smallFile(), 64)
			if err != api.OK {
				t.Fatalf("Resize with bits %d: error %d", bits, err)
			}
			checkFile(t, s, g, in, make([]byte, 64), "Resize")
		}
	}
}

// P14.2: what comes before all else.
func TestArgErrors(t *testing.T) {
	var none *Mem
	for _, s := range []Store{nil, none} {
		for _, g := range []api.Geometry{large, {}} {
			checkArgErrors(t, s, g, smallFile())
		}
	}
	for _, g := range wrongGeometries() {
		s := newSpy(large)
		before := s.copied()
		checkArgErrors(t, s, g, smallFile())
		checkUntouched(t, s, before, fmt.Sprintf("geometry %v", g))
	}
	for _, in := range wrongInodes() {
		s := newSpy(large)
		before := s.copied()
		checkArgErrors(t, s, large, in)
		for _, n := range []int{0, 1, 64, math.MaxInt, -1} {
			b, err := Read(s, in, 0, n)
			checkNoBytes(t, b, err, api.ErrArg, fmt.Sprintf("Read of inode %v", in))
		}
		checkUntouched(t, s, before, fmt.Sprintf("inode %v", in))
	}
	for _, n := range []int{0, 1, -1} {
		b, err := Read(nil, smallFile(), 0, n)
		checkNoBytes(t, b, err, api.ErrArg, "Read without a store")
		b, err = Read(none, smallFile(), 0, n)
		checkNoBytes(t, b, err, api.ErrArg, "Read of a nil store in memory")
	}
}

// checkArgErrors makes the calls that need a geometry, with other errors beside the one of s, g or in.
func checkArgErrors(t *testing.T, s Store, g api.Geometry, in api.Inode) {
	t.Helper()
	if s == nil || !mayByWords(g) {
		if left, err := Left(s, g); left != 0 || err != api.ErrArg {
			t.Errorf("Left(%v): got %d, error %d", g, left, err)
		}
	}
	for _, size := range []int{0, 1, 64, 2304, 2305, -1, math.MaxInt} {
		got, err := Resize(s, g, in, size)
		checkNoInode(t, got, err, api.ErrArg, fmt.Sprintf("Resize of %v, %v to %d", g, in, size))
	}
	for _, b := range [][]byte{nil, {1}, make([]byte, 2305)} {
		for _, off := range []int{0, 1, 2304, 2305, -1, math.MaxInt} {
			got, err := Write(s, g, in, off, b)
			checkNoInode(t, got, err, api.ErrArg, fmt.Sprintf("Write to %v, %v of %d bytes at %d", g, in, len(b), off))
		}
	}
}

// P14.2, P14.4: all parts of files that were laid by hand; what is behind the end is not theirs.
func TestRead(t *testing.T) {
	for _, size := range sizes() {
		for _, kind := range []int{api.File, api.Dir} {
			s := newSpy(large)
			content := pattern(1000+size, size)
			in := lay(s, kind, content, size)
			before := s.copied()
			for _, off := range []int{0, 1, 63, 64, 65, 200, 255, 256, 257, 319, 320, size - 65, size - 1, size, size + 1, 2304, 5000, math.MaxInt - 1, math.MaxInt} {
				for _, n := range []int{0, 1, 2, 63, 64, 65, 128, 300, size - off, size - off + 1, size, 2304, 9999, math.MaxInt - 1, math.MaxInt} {
					if off < 0 || n < 0 {
						continue
					}
					start := min(off, size)
					want := content[start : start+min(n, size-start)]
					got, err := Read(s, in, off, n)
					if err != api.OK || !bytes.Equal(got, want) {
						t.Fatalf("Read(%d, %d) of %d bytes: got %x, error %d, want %x", off, n, size, got, err, want)
					}
					clear(got)
				}
			}
			checkUntouched(t, s, before, "Read")
		}
	}
}

// P14.2: off and n below 0.
func TestReadErrors(t *testing.T) {
	s := newSpy(large)
	in := lay(s, api.File, pattern(1, 300), 1)
	for _, wrong := range append([]int{-1, -2, -64, -300}, far...) {
		if wrong >= 0 {
			continue
		}
		for _, other := range []int{0, 1, 300, math.MaxInt, -1} {
			b, err := Read(s, in, wrong, other)
			checkNoBytes(t, b, err, api.ErrArg, fmt.Sprintf("Read(%d, %d)", wrong, other))
			b, err = Read(s, in, other, wrong)
			checkNoBytes(t, b, err, api.ErrArg, fmt.Sprintf("Read(%d, %d)", other, wrong))
		}
	}
	if s.writes != 0 {
		t.Errorf("Read wrote %d blocks", s.writes)
	}
}

// P14.3, P14.5: from each size to each other one; another file keeps its bytes, and its blocks.
func TestResize(t *testing.T) {
	for _, size := range sizes() {
		content := pattern(2000+size, size)
		for _, next := range sizes() {
			s := newSpy(large)
			other := lay(s, api.Dir, pattern(1, 400), size+next)
			in := lay(s, api.File, content, size)
			what := fmt.Sprintf("Resize from %d to %d", size, next)
			got, err := Resize(s, large, in, next)
			if err != api.OK || got.Kind != api.File {
				t.Fatalf("%s: got %v, error %d", what, got, err)
			}
			checkFile(t, s, large, got, resized(content, next), what)
			checkFile(t, s, large, other, pattern(1, 400), what)
			checkTaken(t, s, large, []api.Inode{got, other}, what)
		}
	}
}

// P14.3: the kind stays, and the blocks below First, with the inodes, are not touched.
func TestResizeKeeps(t *testing.T) {
	for _, g := range geometries {
		for _, kind := range []int{api.File, api.Dir} {
			s := newSpy(g)
			in := api.Inode{Kind: kind}
			for _, size := range []int{1, 192, 64, 128, 0, 65} {
				var err api.Errno
				in, err = Resize(s, g, in, size)
				if err != api.OK || in.Kind != kind || in.Bytes != size {
					t.Fatalf("Resize to %d: got %v, error %d", size, in, err)
				}
				checkTaken(t, s, g, []api.Inode{in}, "Resize")
			}
			for i := 1; i < firstByWords(g); i++ {
				if !bytes.Equal(s.blocks[i], pattern(i, 64)) {
					t.Errorf("block %d of %v was changed", i, g)
				}
			}
		}
	}
}

// P14.3: a file that shrinks and grows again has zeros where it was cut, in its old last block and in new ones.
func TestResizeClears(t *testing.T) {
	for _, size := range sizes() {
		for _, next := range sizes() {
			s := newSpy(large)
			in := lay(s, api.File, pattern(1, 2304), 1)
			in, err := Resize(s, large, in, size)
			if err == api.OK {
				in, err = Resize(s, large, in, next)
			}
			if err != api.OK {
				t.Fatalf("Resize to %d, then to %d: error %d", size, next, err)
			}
			content := resized(pattern(1, 2304)[:size], next)
			checkFile(t, s, large, in, content, fmt.Sprintf("Resize to %d, then to %d", size, next))
		}
	}
}

// P14.3: the indirect block names the file's blocks, and has zeros behind them.
func TestIndirectNamesOwnBlocks(t *testing.T) {
	s := newSpy(large)
	in := smallFile()
	for _, size := range []int{2304, 1000, 321, 320, 2000, 257, 256, 600} {
		var err api.Errno
		if in, err = Resize(s, large, in, size); err != api.OK {
			t.Fatalf("Resize to %d: error %d", size, err)
		}
		if _, data := needByWords(size); data > 4 && slices.Max(s.blocks[in.Indirect][data-4:]) != 0 {
			t.Errorf("after Resize to %d the indirect block is %v", size, s.blocks[in.Indirect])
		}
	}
}

// P14.3: numbers of bytes that no file may have.
func TestResizeErrors(t *testing.T) {
	for _, size := range []int{0, 10, 300} {
		s := newSpy(large)
		in := lay(s, api.File, pattern(1, size), 1)
		before := s.copied()
		for _, wrong := range append([]int{-1, -64, 2305, 2306}, far...) {
			want := api.ErrBig
			if wrong < 0 {
				want = api.ErrArg
			}
			got, err := Resize(s, large, in, wrong)
			checkNoInode(t, got, err, want, fmt.Sprintf("Resize to %d", wrong))
		}
		checkUntouched(t, s, before, "Resize with an error")
	}
}

// P14.3, P14.5: bytes of many lengths at many places of files of many sizes.
func TestWrite(t *testing.T) {
	for _, size := range []int{0, 1, 63, 64, 65, 130, 255, 256, 257, 320, 321, 1000, 2303, 2304} {
		content := pattern(3000+size, size)
		for _, off := range []int{0, 1, 63, 64, 100, 191, 255, 256, 257, 319, 320, 700, 2240, 2303, size} {
			for _, length := range []int{0, 1, 2, 63, 64, 65, 129, 256, 257, 1000, 2304, 2304 - off} {
				if length < 0 || length > 0 && off+length > 2304 {
					continue
				}
				s := newSpy(large)
				other := lay(s, api.File, pattern(1, 300), off)
				in := lay(s, api.Dir, content, size)
				b := pattern(4000+length, length)
				what := fmt.Sprintf("Write of %d bytes at %d of %d", length, off, size)
				got, err := Write(s, large, in, off, b)
				if err != api.OK || got.Kind != api.Dir || !bytes.Equal(b, pattern(4000+length, length)) {
					t.Fatalf("%s: got %v, error %d", what, got, err)
				}
				clear(b)
				checkFile(t, s, large, got, overwritten(content, off, pattern(4000+length, length)), what)
				checkFile(t, s, large, other, pattern(1, 300), what)
				checkTaken(t, s, large, []api.Inode{got, other}, what)
			}
		}
	}
}

// P14.3: where nothing is written nothing is done, even if nothing could be done.
func TestWriteNothing(t *testing.T) {
	for _, size := range []int{0, 1, 64, 257, 2304} {
		s := newSpy(large)
		in := lay(s, api.File, pattern(1, size), 1)
		before := s.copied()
		s.failing, s.code = 1, api.ErrDown
		for _, off := range []int{0, 1, size, 2304, 2305, 1 << 40, math.MaxInt} {
			for _, b := range [][]byte{nil, {}} {
				if got, err := Write(s, large, in, off, b); got != in || err != api.OK {
					t.Errorf("Write of nothing at %d: got %v, error %d", off, got, err)
				}
			}
		}
		checkUntouched(t, s, before, "Write of nothing")
		got, err := Write(s, large, in, -1, nil)
		checkNoInode(t, got, err, api.ErrArg, "Write of nothing at -1")
	}
}

// P14.3: places where no byte of a file may be.
func TestWriteErrors(t *testing.T) {
	for _, size := range []int{0, 10, 300, 2304} {
		s := newSpy(large)
		in := lay(s, api.File, pattern(1, size), 1)
		before := s.copied()
		for _, length := range []int{1, 2, 64, 2303, 2304, 2305, 5000} {
			for _, off := range append([]int{-1, -2, -64, 0, 1, 2304 - length, 2304 - length + 1, 2303, 2304}, far...) {
				want := api.ErrBig
				if off < 0 {
					want = api.ErrArg
				} else if length <= 2304 && off <= 2304-length {
					continue
				}
				got, err := Write(s, large, in, off, pattern(1, length))
				checkNoInode(t, got, err, want, fmt.Sprintf("Write of %d bytes at %d", length, off))
			}
		}
		checkUntouched(t, s, before, "Write with an error")
	}
}

// fill takes all blocks but some of those that are left.
func fill(s *spy, g api.Geometry, leave int) {
	for i := g.Blocks - 1; i >= firstByWords(g); i-- {
		if s.taken(i) {
			continue
		}
		if leave > 0 {
			leave--
			continue
		}
		s.take(i)
	}
}

// P14.3: what fits exactly is done, and what needs a block more is not, whatever the size was and becomes.
func TestNoSpace(t *testing.T) {
	for _, size := range sizes() {
		content := pattern(1, size)
		for _, next := range sizes() {
			needed, _ := needByWords(size)
			need, _ := needByWords(next)
			more := need - needed
			for _, left := range []int{0, more - 1, more} {
				if left < 0 || next == 0 {
					continue
				}
				want := api.OK
				if more > left {
					want = api.ErrNoSpace
				}
				checkFit(t, size, next, left, want, resized(content, next), "Resize", func(s *spy, in api.Inode) (api.Inode, api.Errno) {
					return Resize(s, large, in, next)
				})
				if next < size {
					continue
				}
				checkFit(t, size, next, left, want, overwritten(content, next-1, []byte{7}), "Write", func(s *spy, in api.Inode) (api.Inode, api.Errno) {
					return Write(s, large, in, next-1, []byte{7})
				})
			}
		}
	}
}

// checkFit changes a file of so many bytes while so many blocks are left.
func checkFit(t *testing.T, size, next, left int, want api.Errno, content []byte, name string, change func(s *spy, in api.Inode) (api.Inode, api.Errno)) {
	t.Helper()
	s := newSpy(large)
	in := lay(s, api.File, pattern(1, size), size)
	fill(s, large, left)
	before := s.copied()
	got, err := change(s, in)
	what := fmt.Sprintf("%s from %d to %d with %d blocks left", name, size, next, left)
	if want != api.OK {
		checkNoInode(t, got, err, want, what)
		checkUntouched(t, s, before, what)
		return
	}
	if err != api.OK {
		t.Fatalf("%s: error %d", what, err)
	}
	checkFile(t, s, large, got, content, what)
}

// change is a call that changes a file.
type change struct {
	name string
	call func(s Store, in api.Inode) (api.Inode, api.Errno)
}

func changes() []change {
	resizeTo := func(size int) change {
		return change{fmt.Sprintf("Resize to %d", size), func(s Store, in api.Inode) (api.Inode, api.Errno) { return Resize(s, large, in, size) }}
	}
	writeAt := func(off, length int) change {
		return change{fmt.Sprintf("Write of %d bytes at %d", length, off), func(s Store, in api.Inode) (api.Inode, api.Errno) {
			return Write(s, large, in, off, pattern(9, length))
		}}
	}
	return []change{resizeTo(0), resizeTo(10), resizeTo(300), resizeTo(600), resizeTo(2000), resizeTo(2304), writeAt(0, 1), writeAt(0, 300), writeAt(300, 1), writeAt(500, 200), writeAt(1, 2303)}
}

// P14.2, P14.3: whatever a store returns as an error is returned; before the first write nothing was written.
func TestStoreErrors(t *testing.T) {
	for _, size := range []int{0, 1, 200, 300, 601, 2304} {
		for _, c := range changes() {
			for failing := 1; ; failing++ {
				code := []api.Errno{api.ErrDown, api.ErrArg, api.ErrIntegrity, 99, -1}[failing%5]
				s := newSpy(large)
				in := lay(s, api.File, pattern(1, size), 1)
				s.failing, s.code = failing, code
				before := s.copied()
				got, err := c.call(s, in)
				if s.reads+s.writes < failing {
					if err != api.OK {
						t.Errorf("%s, without a failing store: error %d", c.name, err)
					}
					break
				}
				checkNoInode(t, got, err, code, c.name+" with a failing store")
				if s.reads+s.writes != failing {
					t.Errorf("%s went on after the store failed", c.name)
				}
				if s.writes == 0 && !s.same(before) {
					t.Errorf("%s, before the first write, changed the store", c.name)
				}
			}
		}
	}
}

// P14.2: the same for the calls that only read.
func TestStoreErrorsOfReading(t *testing.T) {
	for _, size := range []int{1, 64, 65, 300, 2304} {
		for failing := 1; ; failing++ {
			s := newSpy(large)
			in := lay(s, api.File, pattern(1, size), 1)
			s.failing, s.code = failing, api.Errno(50+failing)
			got, err := Read(s, in, 0, size)
			if s.reads < failing {
				break
			}
			checkNoBytes(t, got, err, api.Errno(50+failing), "Read of a failing store")
		}
	}
	s := newSpy(large)
	s.failing, s.code = 1, api.ErrDown
	if left, err := Left(s, large); left != 0 || err != api.ErrDown {
		t.Errorf("Left of a failing store: got %d, error %d", left, err)
	}
}

// P14.2: a block that the store does not have is the store's error.
func TestBlockThatIsNone(t *testing.T) {
	g := api.Geometry{Blocks: 8, Inodes: 2}
	in := api.Inode{Kind: api.File, Bytes: 70, Blocks: [4]int{3, 100}}
	m, _ := NewMem(g)
	b, err := Read(m, in, 0, 70)
	checkNoBytes(t, b, err, api.ErrArg, "Read")
	got, err := Write(m, g, in, 60, make([]byte, 10))
	checkNoInode(t, got, err, api.ErrArg, "Write")
	got, err = Resize(m, g, in, 71)
	checkNoInode(t, got, err, api.ErrArg, "Resize")
}

// P14.2, P14.3: a number in the indirect block that is none is found in each place that the file needs.
func TestIntegrity(t *testing.T) {
	for _, size := range []int{257, 320, 321, 1000, 2304} {
		_, data := needByWords(size)
		for place := range data - 4 {
			for _, number := range []byte{0, 128, 129, 200, 255} {
				s := newSpy(large)
				in := lay(s, api.File, pattern(1, size), 1)
				s.blocks[in.Indirect][place] = number
				before := s.copied()
				b, err := Read(s, in, 0, size)
				checkNoBytes(t, b, err, api.ErrIntegrity, "Read")
				for _, c := range changes() {
					got, err := c.call(s, in)
					checkNoInode(t, got, err, api.ErrIntegrity, c.name)
				}
				checkUntouched(t, s, before, "a call with ErrIntegrity")
			}
		}
	}
}

// P14.2: 1 and 127 are numbers of blocks, and what the file does not need of the indirect block doesn't count.
func TestIndirectEdges(t *testing.T) {
	s := newSpy(large)
	in := api.Inode{Kind: api.File, Bytes: 384, Blocks: [4]int{50, 51, 52, 53}, Indirect: 54}
	s.blocks[54] = bytes.Repeat([]byte{255}, 64)
	s.blocks[54][0], s.blocks[54][1] = 1, 127
	want := slices.Concat(s.blocks[50], s.blocks[51], s.blocks[52], s.blocks[53], s.blocks[1], s.blocks[127])
	if got, err := Read(s, in, 0, 384); err != api.OK || !bytes.Equal(got, want) {
		t.Errorf("Read: got %x, error %d", got, err)
	}
	if got, err := Write(s, large, in, 320, []byte{7}); err != api.OK || got != in || s.blocks[127][0] != 7 {
		t.Errorf("Write: got %v, error %d", got, err)
	}
}

// P14.3: a block that an indirect block names twice is taken as long as the file needs it.
func TestBlockNamedTwice(t *testing.T) {
	s := newSpy(large)
	in := lay(s, api.File, pattern(1, 448), 1)
	s.blocks[in.Indirect][2] = s.blocks[in.Indirect][0]
	twice := int(s.blocks[in.Indirect][0])
	in, err := Resize(s, large, in, 320)
	if err != api.OK || !s.taken(twice) {
		t.Errorf("Resize: error %d; the block that is needed is not taken any more", err)
	}
	if in, err = Resize(s, large, in, 256); err != api.OK || s.taken(twice) {
		t.Errorf("Resize: error %d; the block that is not needed is taken", err)
	}
}

// odd is a store whose blocks have a wrong size.
type odd struct{ size int }

func (o odd) Read(i int) ([]byte, api.Errno) {
	return make([]byte, o.size), api.OK
}

func (o odd) Write(i int, b []byte) api.Errno {
	return api.OK
}

// R1: a store that is none makes no call panic.
func TestOddStore(t *testing.T) {
	for _, size := range []int{0, 1, 8, 63, 65, 128} {
		s := odd{size}
		for _, in := range []api.Inode{{Kind: 1, Bytes: 10, Blocks: [4]int{5}}, {Kind: 1, Bytes: 300, Blocks: [4]int{5, 6, 7, 8}, Indirect: 9}} {
			b, err := Read(s, in, 0, 300)
			checkNoBytes(t, b, err, api.ErrIntegrity, "Read")
			got, err := Write(s, large, in, 0, []byte{1})
			checkNoInode(t, got, err, api.ErrIntegrity, "Write")
			got, err = Resize(s, large, in, 0)
			checkNoInode(t, got, err, api.ErrIntegrity, "Resize")
		}
		if left, err := Left(s, large); left != 0 || err != api.ErrIntegrity {
			t.Errorf("Left: got %d, error %d", left, err)
		}
	}
}

// P14.5: many files in one store, with calls by chance, are what the words say, whatever the geometry is.
func TestManyFiles(t *testing.T) {
	for seed, g := range geometries {
		source := rand.New(rand.NewSource(int64(seed)))
		s := newSpy(g)
		files := slices.Repeat([]api.Inode{smallFile()}, 5)
		contents := make([][]byte, len(files))
		for range 1500 {
			i := source.Intn(len(files))
			free := g.Blocks - len(s.allTaken())
			var next []byte
			var got api.Inode
			var err api.Errno
			before := s.copied()
			s.reads, s.writes = 0, 0
			if off := source.Intn(700); source.Intn(3) == 0 {
				next = resized(contents[i], off)
				got, err = Resize(s, g, files[i], off)
			} else {
				b := pattern(source.Int(), source.Intn(200))
				next = overwritten(contents[i], off, b)
				got, err = Write(s, g, files[i], off, b)
			}
			needed, _ := needByWords(len(contents[i]))
			need, _ := needByWords(len(next))
			if need-needed > free {
				checkNoInode(t, got, err, api.ErrNoSpace, "a call without room")
				checkUntouched(t, s, before, "a call without room")
				continue
			}
			if err != api.OK {
				t.Fatalf("a call that has room: error %d", err)
			}
			files[i], contents[i] = got, next
			checkAll(t, s, g, files, contents)
		}
	}
}

func checkAll(t *testing.T, s *spy, g api.Geometry, files []api.Inode, contents [][]byte) {
	t.Helper()
	for i, in := range files {
		checkFile(t, s, g, in, contents[i], "a file")
		if got, err := Read(s, in, 0, math.MaxInt); err != api.OK || !bytes.Equal(got, contents[i]) {
			t.Fatalf("Read: got %x, error %d, want %x", got, err, contents[i])
		}
	}
	checkTaken(t, s, g, files, "all files")
	if left, err := Left(s, g); left != g.Blocks-len(s.allTaken()) || err != api.OK {
		t.Fatalf("Left: got %d, error %d", left, err)
	}
}

// P14.5: a store in memory does the same.
func TestFilesInMemory(t *testing.T) {
	for _, g := range geometries {
		m, _ := NewMem(g)
		in, err := Write(m, g, smallFile(), 10, []byte("abc"))
		if err != api.OK {
			t.Fatalf("Write: error %d", err)
		}
		other, err := Resize(m, g, api.Inode{Kind: api.Dir}, 100)
		if err != api.OK {
			t.Fatalf("Resize: error %d", err)
		}
		if got, err := Read(m, in, 8, 9); err != api.OK || string(got) != "\x00\x00abc" {
			t.Errorf("Read: got %q, error %d", got, err)
		}
		if left, err := Left(m, g); left != g.Blocks-firstByWords(g)-3 || err != api.OK {
			t.Errorf("Left: got %d, error %d", left, err)
		}
		in, _ = Resize(m, g, in, 0)
		other, err = Resize(m, g, other, 0)
		if left, _ := Left(m, g); left != g.Blocks-firstByWords(g) || err != api.OK || in != smallFile() {
			t.Errorf("after all was given back: Left is %d, the files are %v and %v, error %d", left, in, other, err)
		}
	}
}

// R4: calls at once, each with a store of its own, and readers of one store.
func TestAtOnce(t *testing.T) {
	shared, _ := NewMem(large)
	in, _ := Write(shared, large, smallFile(), 0, pattern(1, 1000))
	var group sync.WaitGroup
	for i := range 16 {
		group.Go(func() {
			own, _ := NewMem(large)
			content := pattern(i, 700)
			file, err := Write(own, large, smallFile(), 0, content)
			if got, _ := Read(own, file, 0, 700); err != api.OK || !bytes.Equal(got, content) {
				t.Errorf("a store of its own: error %d, got %x", err, got)
			}
			if got, err := Read(shared, in, 0, 1000); err != api.OK || !bytes.Equal(got, pattern(1, 1000)) {
				t.Errorf("a shared store: error %d, got %x", err, got)
			}
			if left, err := Left(shared, large); left != 128-5-17 || err != api.OK {
				t.Errorf("a shared store: %d blocks are left, error %d", left, err)
			}
		})
	}
	group.Wait()
}
