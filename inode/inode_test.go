package inode

import (
	"bytes"
	"math"
	"math/big"
	"math/rand"
	"slices"
	"sync"
	"testing"

	"padlock/api"
)

// notPositive are numbers below 1. Some of them become valid ones when they are cut.
var notPositive = []int{
	math.MinInt, math.MinInt + 1, math.MinInt + 64, math.MinInt32, -1 << 32, -1<<32 + 1, -1 << 16, -1<<16 + 1,
	-65536 + 64, -2304, -257, -256, -255, -128, -127, -65, -64, -63, -2, -1, 0,
}

// tooLarge are numbers that neither a block nor a kind nor the bytes of a file can be. Some become valid when they are cut.
var tooLarge = []int{
	2305, 2306, 2368, 4096, 65535, 65536, 65537, 65536 + 64, 1 << 24, 1<<31 - 1, 1 << 31, 1 << 32, 1<<32 + 1,
	1<<32 + 64, 1 << 62, math.MaxInt - 64, math.MaxInt - 63, math.MaxInt - 1, math.MaxInt,
}

// wrongBlocks are numbers that no block of a file has.
func wrongBlocks() []int {
	return slices.Concat([]int{128, 129, 191, 255, 256, 257, 383}, notPositive, tooLarge)
}

// wrongKinds are numbers that no kind has.
func wrongKinds() []int {
	l := slices.Concat([]int{3, 4, 127, 128, 255, 256, 257, 258, 512}, notPositive, tooLarge)
	return slices.DeleteFunc(l, func(kind int) bool { return kind == api.Free })
}

// sizes are numbers of bytes around those where a block more is needed, up to the largest file.
func sizes() []int {
	var l []int
	for blocks := range 37 {
		for _, bytes := range []int{64*blocks - 1, 64 * blocks, 64*blocks + 1, 64*blocks + 32} {
			if bytes >= 0 && bytes <= 2304 {
				l = append(l, bytes)
			}
		}
	}
	return l
}

// contentByWords is how many blocks a file needs for its bytes, with numbers that have no limit.
func contentByWords(bytes int) *big.Int {
	content, rest := new(big.Int).DivMod(big.NewInt(int64(max(bytes, 0))), big.NewInt(64), new(big.Int))
	if rest.Sign() > 0 {
		content.Add(content, big.NewInt(1))
	}
	return content
}

func needByWords(bytes int) int {
	need := contentByWords(bytes)
	if need.Cmp(big.NewInt(4)) > 0 {
		need.Add(need, big.NewInt(1))
	}
	return int(need.Int64())
}

// zerosByWords tells for the blocks, and then for the indirect one, whether a file of that many bytes has none there.
func zerosByWords(bytes int) [5]bool {
	content := int(contentByWords(bytes).Int64())
	return [5]bool{content < 1, content < 2, content < 3, content < 4, content < 5}
}

func validByWords(in api.Inode) bool {
	l := [5]int{in.Blocks[0], in.Blocks[1], in.Blocks[2], in.Blocks[3], in.Indirect}
	if in.Kind == 0 {
		return in.Bytes == 0 && l == [5]int{}
	}
	if in.Kind != 1 && in.Kind != 2 || in.Bytes < 0 || in.Bytes > 2304 {
		return false
	}
	times := map[int]int{}
	for place, zero := range zerosByWords(in.Bytes) {
		if zero != (l[place] == 0) || l[place] < 0 || l[place] > 127 {
			return false
		}
		times[l[place]]++
	}
	for number, many := range times {
		if number != 0 && many > 1 {
			return false
		}
	}
	return true
}

// encodedByWords is the encoding of an inode whose numbers have room in it.
func encodedByWords(in api.Inode) []byte {
	b := []byte{byte(in.Kind), byte(in.Bytes / 256), byte(in.Bytes % 256)}
	for _, number := range in.Blocks {
		b = append(b, byte(number))
	}
	return append(b, byte(in.Indirect))
}

// decodedByWords is the inode, valid or not, that eight bytes tell of.
func decodedByWords(b []byte) api.Inode {
	blocks := [4]int{int(b[3]), int(b[4]), int(b[5]), int(b[6])}
	return api.Inode{Kind: int(b[0]), Bytes: 256*int(b[1]) + int(b[2]), Blocks: blocks, Indirect: int(b[7])}
}

// inodeFor is a valid inode of so many bytes, with the first of these five numbers, as many as it needs.
func inodeFor(kind, bytes int, l [5]int) api.Inode {
	for place, zero := range zerosByWords(bytes) {
		if zero {
			l[place] = 0
		}
	}
	return api.Inode{Kind: kind, Bytes: bytes, Blocks: [4]int(l[:4]), Indirect: l[4]}
}

// validInodes are valid inodes of all kinds, with all sizes of interest and numbers at the edges and by chance.
func validInodes() []api.Inode {
	source := rand.New(rand.NewSource(1))
	l := []api.Inode{{}}
	for _, bytes := range sizes() {
		for _, kind := range []int{1, 2} {
			some := source.Perm(127)
			for _, five := range [][5]int{{1, 2, 3, 4, 5}, {127, 126, 125, 124, 123}, {64, 1, 127, 2, 63}} {
				l = append(l, inodeFor(kind, bytes, five))
			}
			l = append(l, inodeFor(kind, bytes, [5]int{some[0] + 1, some[1] + 1, some[2] + 1, some[3] + 1, some[4] + 1}))
		}
	}
	return l
}

// changed is an inode with one of its seven numbers changed: the kind, the bytes, the blocks, the indirect one.
func changed(in api.Inode, field, number int) api.Inode {
	switch field {
	case 0:
		in.Kind = number
	case 1:
		in.Bytes = number
	case 6:
		in.Indirect = number
	default:
		in.Blocks[field-2] = number
	}
	return in
}

func checkNeed(t *testing.T, bytes, want int) {
	t.Helper()
	if got := Need(bytes); got != want {
		t.Errorf("Need(%d): got %d, want %d", bytes, got, want)
	}
}

// accept holds May, Put and Get against an inode that is valid, and its encoding.
func accept(t *testing.T, in api.Inode, want []byte) {
	t.Helper()
	if !May(in) {
		t.Errorf("May(%v): got false, want true", in)
	}
	if got, err := Put(in); err != api.OK || !bytes.Equal(got, want) {
		t.Errorf("Put(%v): got %v, error %d, want %v", in, got, err, want)
	}
	if got, err := Get(want); err != api.OK || got != in {
		t.Errorf("Get(%v): got %v, error %d, want %v", want, got, err, in)
	}
}

// refuse holds May and Put against an inode that is not valid. With an error, there is nothing beside it (R2).
func refuse(t *testing.T, in api.Inode) {
	t.Helper()
	if May(in) {
		t.Errorf("May(%v): got true, want false", in)
	}
	if got, err := Put(in); err != api.ErrArg || got != nil {
		t.Errorf("Put(%v): got %v, error %d, want error %d alone", in, got, err, api.ErrArg)
	}
}

func refuseGet(t *testing.T, b []byte, want api.Errno) {
	t.Helper()
	if got, err := Get(b); err != want || got != (api.Inode{}) {
		t.Errorf("Get(%v): got %v, error %d, want error %d alone", b, got, err, want)
	}
}

// check holds May and Put, and Get of the bytes if there are such, against the words, whether the inode is valid or not.
func check(t *testing.T, in api.Inode) {
	t.Helper()
	if validByWords(in) {
		accept(t, in, encodedByWords(in))
		return
	}
	refuse(t, in)
	if b := encodedByWords(in); decodedByWords(b) == in {
		refuseGet(t, b, api.ErrIntegrity)
	}
}

// checkBytes holds Get of eight bytes against the words.
func checkBytes(t *testing.T, b []byte) {
	t.Helper()
	check(t, decodedByWords(b))
}

// P13.1: the example of the chapter.
func TestExample(t *testing.T) {
	checkNeed(t, 256, 4)
	checkNeed(t, 257, 6)
}

// P13.1: the chapter's numbers, and what the layers above count on.
func TestWide(t *testing.T) {
	if Wide != 8 {
		t.Errorf("Wide: got %d, want 8", Wide)
	}
	if got, err := Put(api.Inode{}); err != api.OK || len(got) != Wide {
		t.Errorf("Put of a free inode: got %v, error %d, want %d bytes", got, err, Wide)
	}
}

// P13.1: Need, written out by hand: nothing, a block and the next one, the indirect one, and the largest file.
func TestNeedWrittenOut(t *testing.T) {
	for bytes, want := range map[int]int{
		0: 0, 1: 1, 2: 1, 63: 1, 64: 1, 65: 2, 127: 2, 128: 2, 129: 3, 192: 3, 193: 4, 255: 4, 256: 4,
		257: 6, 258: 6, 319: 6, 320: 6, 321: 7, 384: 7, 385: 8, 2240: 36, 2241: 37, 2303: 37, 2304: 37,
	} {
		checkNeed(t, bytes, want)
	}
}

// P13.1: Need of all numbers of bytes that a file can have, and of more.
func TestNeedOfEach(t *testing.T) {
	for bytes := -200; bytes < 70000; bytes++ {
		checkNeed(t, bytes, needByWords(bytes))
	}
}

// P13.1: a number below 1 needs nothing; a number that no file has, up to the largest one, has its need all the same.
func TestNeedFar(t *testing.T) {
	for _, bytes := range notPositive {
		checkNeed(t, bytes, 0)
	}
	for _, bytes := range tooLarge {
		checkNeed(t, bytes, needByWords(bytes))
	}
	for power := range 62 {
		for by := -2; by <= 2; by++ {
			checkNeed(t, 1<<power+by, needByWords(1<<power+by))
		}
	}
	checkNeed(t, 2305, 38)
	checkNeed(t, math.MaxInt, 1<<57+1)
	checkNeed(t, math.MaxInt-63, 1<<57)
}

// P13.2: more bytes never need fewer blocks.
func TestMoreNeedsMore(t *testing.T) {
	l := slices.Concat(notPositive, tooLarge, sizes())
	slices.Sort(l)
	for i := 1; i < len(l); i++ {
		if Need(l[i]) < Need(l[i-1]) {
			t.Errorf("%d bytes need %d blocks, %d bytes %d", l[i-1], Need(l[i-1]), l[i], Need(l[i]))
		}
	}
}

// P13.1: inodes and their encodings written out by hand, so that no code stands between the words and them.
func TestWrittenOut(t *testing.T) {
	accept(t, api.Inode{}, []byte{0, 0, 0, 0, 0, 0, 0, 0})
	accept(t, api.Inode{Kind: api.File}, []byte{1, 0, 0, 0, 0, 0, 0, 0})
	accept(t, api.Inode{Kind: api.Dir}, []byte{2, 0, 0, 0, 0, 0, 0, 0})
	accept(t, api.Inode{Kind: 1, Bytes: 1, Blocks: [4]int{1}}, []byte{1, 0, 1, 1, 0, 0, 0, 0})
	accept(t, api.Inode{Kind: 2, Bytes: 64, Blocks: [4]int{127}}, []byte{2, 0, 64, 127, 0, 0, 0, 0})
	accept(t, api.Inode{Kind: 1, Bytes: 65, Blocks: [4]int{9, 8}}, []byte{1, 0, 65, 9, 8, 0, 0, 0})
	accept(t, api.Inode{Kind: 1, Bytes: 129, Blocks: [4]int{9, 8, 10}}, []byte{1, 0, 129, 9, 8, 10, 0, 0})
	accept(t, api.Inode{Kind: 2, Bytes: 255, Blocks: [4]int{4, 3, 2, 1}}, []byte{2, 0, 255, 4, 3, 2, 1, 0})
	accept(t, api.Inode{Kind: 1, Bytes: 256, Blocks: [4]int{4, 3, 2, 1}}, []byte{1, 1, 0, 4, 3, 2, 1, 0})
	accept(t, api.Inode{Kind: 1, Bytes: 257, Blocks: [4]int{4, 3, 2, 1}, Indirect: 5}, []byte{1, 1, 1, 4, 3, 2, 1, 5})
	accept(t, api.Inode{Kind: 2, Bytes: 772, Blocks: [4]int{5, 6, 7, 8}, Indirect: 9}, []byte{2, 3, 4, 5, 6, 7, 8, 9})
	accept(t, api.Inode{Kind: 1, Bytes: 2304, Blocks: [4]int{127, 1, 126, 2}, Indirect: 125}, []byte{1, 9, 0, 127, 1, 126, 2, 125})
}

// P13.1: inodes that are not valid, one for each of the chapter's words, written out by hand.
func TestNotValidWrittenOut(t *testing.T) {
	for _, in := range []api.Inode{
		{Bytes: 1},
		{Blocks: [4]int{1}},
		{Blocks: [4]int{0, 0, 0, 1}},
		{Indirect: 1},
		{Bytes: 64, Blocks: [4]int{1}},
		{Kind: 3},
		{Kind: -1},
		{Kind: 256},
		{Kind: 257},
		{Kind: 3, Bytes: 64, Blocks: [4]int{1}},
		{Kind: 1, Bytes: -1},
		{Kind: 1, Bytes: -64, Blocks: [4]int{1}},
		{Kind: 1, Bytes: 2305, Blocks: [4]int{1, 2, 3, 4}, Indirect: 5},
		{Kind: 2, Bytes: 65536 + 64, Blocks: [4]int{1}},
		{Kind: 1, Bytes: 1},
		{Kind: 1, Bytes: 64, Blocks: [4]int{0, 1}},
		{Kind: 1, Bytes: 64, Blocks: [4]int{1, 2}},
		{Kind: 1, Bytes: 65, Blocks: [4]int{1}},
		{Kind: 1, Bytes: 65, Blocks: [4]int{1, 0, 2}},
		{Kind: 1, Blocks: [4]int{1}},
		{Kind: 2, Indirect: 1},
		{Kind: 2, Bytes: 64, Blocks: [4]int{128}},
		{Kind: 2, Bytes: 64, Blocks: [4]int{-1}},
		{Kind: 2, Bytes: 64, Blocks: [4]int{257}},
		{Kind: 2, Bytes: 65, Blocks: [4]int{7, 7}},
		{Kind: 2, Bytes: 256, Blocks: [4]int{7, 8, 9, 7}},
		{Kind: 2, Bytes: 256, Blocks: [4]int{1, 2, 3, 4}, Indirect: 5},
		{Kind: 2, Bytes: 257, Blocks: [4]int{1, 2, 3, 4}},
		{Kind: 2, Bytes: 257, Blocks: [4]int{1, 2, 3, 4}, Indirect: 128},
		{Kind: 2, Bytes: 257, Blocks: [4]int{1, 2, 3, 4}, Indirect: -5},
		{Kind: 2, Bytes: 257, Blocks: [4]int{1, 2, 3, 4}, Indirect: 3},
		{Kind: 2, Bytes: 257, Blocks: [4]int{1, 2, 3, 0}, Indirect: 5},
	} {
		refuse(t, in)
	}
}

// P13.1: bytes that are no encoding of a valid inode, written out by hand.
func TestNoEncodingWrittenOut(t *testing.T) {
	for _, b := range [][]byte{
		{0, 0, 0, 0, 0, 0, 0, 1},
		{0, 0, 1, 0, 0, 0, 0, 0},
		{0, 1, 0, 0, 0, 0, 0, 0},
		{3, 0, 0, 0, 0, 0, 0, 0},
		{255, 0, 0, 0, 0, 0, 0, 0},
		{1, 0, 1, 0, 0, 0, 0, 0},
		{1, 1, 0, 1, 0, 0, 0, 0},
		{1, 0, 64, 128, 0, 0, 0, 0},
		{1, 0, 64, 255, 0, 0, 0, 0},
		{1, 0, 64, 1, 0, 0, 0, 1},
		{1, 0, 65, 1, 1, 0, 0, 0},
		{2, 1, 0, 1, 2, 3, 4, 5},
		{2, 1, 1, 1, 2, 3, 4, 0},
		{2, 1, 1, 1, 2, 3, 4, 4},
		{2, 9, 1, 1, 2, 3, 4, 5},
		{2, 255, 255, 1, 2, 3, 4, 5},
		{255, 255, 255, 255, 255, 255, 255, 255},
	} {
		refuseGet(t, b, api.ErrIntegrity)
	}
}

// P13.1: a list of another length is no argument of Get, whatever is in it, and that is what it says first.
func TestOtherLengths(t *testing.T) {
	valid := []byte{1, 1, 1, 4, 3, 2, 1, 5}
	for _, n := range []int{0, 1, 2, 3, 4, 5, 6, 7, 9, 10, 15, 16, 17, 24, 64, 72, 255, 256, 264, 65544} {
		refuseGet(t, make([]byte, n), api.ErrArg)
		refuseGet(t, bytes.Repeat([]byte{255}, n), api.ErrArg)
		refuseGet(t, bytes.Repeat(valid, n/8+1)[:n], api.ErrArg)
	}
	refuseGet(t, nil, api.ErrArg)
	refuseGet(t, valid[:7], api.ErrArg) // the eighth byte stands behind it in memory, but is none of its own
}

// P13.1: every kind of file with every number of bytes, and with every number of blocks, from the first one on.
func TestEachSize(t *testing.T) {
	for _, kind := range []int{1, 2} {
		for bytes := -3; bytes <= 2400; bytes++ {
			for many := range 6 {
				var l [5]int
				for place := range many {
					l[place] = 1 + (bytes+200+29*place)%127
				}
				check(t, api.Inode{Kind: kind, Bytes: bytes, Blocks: [4]int(l[:4]), Indirect: l[4]})
			}
		}
	}
}

// P13.1: every choice of the places that have a number, at each size.
func TestEachChoiceOfPlaces(t *testing.T) {
	for _, bytes := range sizes() {
		for choice := range 32 {
			in := api.Inode{Bytes: bytes}
			for place := range 5 {
				if choice>>place&1 == 1 {
					in = changed(in, 2+place, 11*place+3)
				}
			}
			for _, kind := range []int{0, 1, 2, 3} {
				check(t, changed(in, 0, kind))
			}
		}
	}
}

// P13.1: two equal numbers at any two places are refused, if both are needed; all that are different are accepted.
func TestEqualNumbers(t *testing.T) {
	for _, bytes := range sizes() {
		for _, number := range []int{1, 2, 63, 64, 126, 127} {
			for place := range 5 {
				for other := range place {
					in := inodeFor(1+place%2, bytes, [5]int{10, 20, 30, 40, 50})
					if zerosByWords(bytes)[place] {
						continue
					}
					in = changed(in, 2+place, number)
					check(t, in)
					refuse(t, changed(in, 2+other, number))
				}
			}
		}
	}
}

// P13.1: valid inodes, and what becomes of them when one of their numbers is at or behind an edge.
func TestOneNumberChanged(t *testing.T) {
	for _, in := range validInodes() {
		accept(t, in, encodedByWords(in))
		for _, kind := range wrongKinds() {
			refuse(t, changed(in, 0, kind))
		}
		for _, bytes := range slices.Concat(notPositive[:len(notPositive)-1], tooLarge) {
			refuse(t, changed(in, 1, bytes))
		}
		for field := range 7 {
			for _, number := range slices.Concat([]int{1, 2, 3, 4, 5, 64, 65, 126, 127}, wrongBlocks()) {
				check(t, changed(in, field, number))
			}
		}
	}
}

// P13.1: a block that is needed has a number from 1 to 127, any of them; others have 0.
func TestEachNumber(t *testing.T) {
	for _, bytes := range sizes() {
		in := inodeFor(1+bytes%2, bytes, [5]int{1, 2, 3, 4, 5})
		for place := range 5 {
			for number := -2; number < 260; number++ {
				check(t, changed(in, 2+place, number))
			}
		}
	}
}

// P13.1: bytes that are those of a valid inode but for one.
func TestOneByteChanged(t *testing.T) {
	for _, in := range validInodes() {
		b := encodedByWords(in)
		for place, before := range b {
			for x := range 256 {
				b[place] = byte(x)
				if validByWords(decodedByWords(b)) {
					continue
				}
				refuseGet(t, b, api.ErrIntegrity)
			}
			b[place] = before
		}
	}
}

// P13.1 and P13.2: all kinds and numbers of bytes that three bytes can tell, with the blocks that some sizes need.
func TestEachBeginning(t *testing.T) {
	for kind := range 4 {
		for size := range 1 << 16 {
			b := []byte{byte(kind), byte(size >> 8), byte(size), 0, 0, 0, 0, 0}
			for place := range min(needByWords(size), 5) {
				b[3+place] = byte(100 + place)
			}
			checkBytes(t, b)
		}
	}
}

// P13.1 and P13.2: any bytes, by chance, whose numbers are small enough to be valid often, but not always.
func TestAnyBytes(t *testing.T) {
	source := rand.New(rand.NewSource(2))
	valid := 0
	for range 200000 {
		b := make([]byte, 8)
		source.Read(b)
		b[0] %= 4
		b[1] %= 2
		for place := 3; place < 8; place++ {
			b[place] %= 130
			if source.Intn(4) == 0 {
				b[place] = byte(source.Intn(4))
			}
		}
		checkBytes(t, b)
		if validByWords(decodedByWords(b)) {
			valid++
		}
	}
	if valid < 1000 {
		t.Errorf("only %d of the encodings are valid", valid)
	}
}

// P13.2: Get returns the inode that Put encoded, and Put the bytes that Get decoded.
func TestThereAndBack(t *testing.T) {
	for _, in := range validInodes() {
		b, err := Put(in)
		if err != api.OK {
			t.Fatalf("Put(%v): error %d", in, err)
		}
		back, err := Get(b)
		if err != api.OK || back != in {
			t.Errorf("Get(Put(%v)): got %v, error %d", in, back, err)
		}
		again, err := Put(back)
		if err != api.OK || !bytes.Equal(again, b) {
			t.Errorf("Put(Get(%v)): got %v, error %d", b, again, err)
		}
	}
}

// P13.2: no two valid inodes have the same encoding.
func TestEncodingsDiffer(t *testing.T) {
	of := map[string]api.Inode{}
	for _, in := range validInodes() {
		b, _ := Put(in)
		if other, ok := of[string(b)]; ok && other != in {
			t.Errorf("%v and %v have the encoding %v", in, other, b)
		}
		of[string(b)] = in
	}
}

// R3: the bytes, and the memory around them, are as they were; what Put returned shares no memory with other results.
func TestMemory(t *testing.T) {
	room := []byte{200, 1, 1, 1, 4, 3, 2, 1, 5, 201, 202}
	kept := slices.Clone(room)
	in, err := Get(room[1:9])
	if want := (api.Inode{Kind: 1, Bytes: 257, Blocks: [4]int{4, 3, 2, 1}, Indirect: 5}); err != api.OK || in != want {
		t.Errorf("Get of a part of a list: got %v, error %d, want %v", in, err, want)
	}
	first, _ := Put(in)
	second, _ := Put(in)
	clear(first[:cap(first)])
	if !bytes.Equal(second, kept[1:9]) {
		t.Errorf("behind a change of another result: got %v, want %v", second, kept[1:9])
	}
	if third, _ := Put(in); !bytes.Equal(third, kept[1:9]) {
		t.Errorf("after a change of a result: got %v, want %v", third, kept[1:9])
	}
	if !bytes.Equal(room, kept) {
		t.Errorf("behind the calls: got %v, want %v", room, kept)
	}
}

// R4: neither calls before nor calls at the same time influence a call.
func TestCallsAtOnce(t *testing.T) {
	shared := validInodes()
	var wait sync.WaitGroup
	for n := range 16 {
		wait.Go(func() {
			source := rand.New(rand.NewSource(int64(n % 4)))
			for range 500 {
				in := shared[source.Intn(len(shared))]
				accept(t, in, encodedByWords(in))
				checkNeed(t, in.Bytes, needByWords(in.Bytes))
				refuse(t, changed(in, 0, 3))
				refuseGet(t, encodedByWords(changed(in, 0, 3)), api.ErrIntegrity)
			}
		})
	}
	wait.Wait()
}
