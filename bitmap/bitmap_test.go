package bitmap

import (
	"bytes"
	"math"
	"math/rand"
	"slices"
	"strconv"
	"strings"
	"sync"
	"testing"

	"padlock/api"
)

// belowZero are indices of no bit. Some of them, and of beyond, become that of a bit when they are cut or wrap round.
var belowZero = []int{
	math.MinInt, math.MinInt + 1, math.MinInt + 8, math.MinInt32, -1 << 32, -1<<32 + 3, -1 << 16,
	-256, -129, -128, -65, -64, -17, -16, -9, -8, -7, -2, -1,
}

// beyond are indices behind all bits of the bitmaps here.
var beyond = []int{
	1 << 16, 1<<31 - 1, 1 << 31, 1 << 32, 1<<32 + 3, 1 << 34, 1 << 35, 1<<35 + 5,
	1 << 61, 1<<61 + 3, 1 << 62, math.MaxInt - 7, math.MaxInt - 1, math.MaxInt,
}

// far are both.
func far() []int {
	return slices.Concat(belowZero, beyond)
}

// bitmaps are lists of bytes: none, one, those at the sizes of the other layers, and longer ones.
func bitmaps() [][]byte {
	source := rand.New(rand.NewSource(1))
	l := [][]byte{nil, {}, {0}, {255}, {1}, {128}, {5, 0}, {0, 255}, {255, 0}, {254, 255}, {255, 127}}
	for _, n := range []int{2, 3, 4, 7, 8, 9, 16, 31, 32, 33, 64, 65, 300} {
		random := make([]byte, n)
		source.Read(random)
		l = append(l, make([]byte, n), bytes.Repeat([]byte{255}, n), bytes.Repeat([]byte{0xa5}, n), random)
	}
	return l
}

// bitsByWords is a digit for each bit, bit 0 first: the least significant one of the first byte.
func bitsByWords(b []byte) string {
	var all strings.Builder
	for _, x := range b {
		digits := []byte(strconv.FormatInt(256+int64(x), 2)[1:])
		slices.Reverse(digits)
		all.Write(digits)
	}
	return all.String()
}

// bytesByWords are the bytes of such digits.
func bytesByWords(bits string) []byte {
	var b []byte
	for digits := range slices.Chunk([]byte(bits), 8) {
		digits = slices.Clone(digits)
		slices.Reverse(digits)
		x, err := strconv.ParseUint(string(digits), 2, 8)
		if err != nil {
			panic(err)
		}
		b = append(b, byte(x))
	}
	return b
}

// part returns the digits of the bits from one on and before another, and the index of the first one.
func part(bits string, from, to int) (string, int) {
	from = min(max(from, 0), len(bits))
	to = min(max(to, from), len(bits))
	return bits[from:to], from
}

func countByWords(bits string, from, to int) int {
	digits, _ := part(bits, from, to)
	return strings.Count(digits, "1")
}

func firstByWords(bits string, from, to int) int {
	digits, at := part(bits, from, to)
	if i := strings.IndexByte(digits, '0'); i >= 0 {
		return at + i
	}
	return -1
}

// setByWords is what b is with bit i set.
func setByWords(b []byte, i int, on bool) []byte {
	digits := []byte(bitsByWords(b))
	digits[i] = '0'
	if on {
		digits[i] = '1'
	}
	return bytesByWords(string(digits))
}

func checkGet(t *testing.T, b []byte, i int, want bool) {
	t.Helper()
	if got := Get(b, i); got != want {
		t.Errorf("Get(%v, %d): got %v, want %v", b, i, got, want)
	}
}

func checkSet(t *testing.T, b []byte, i int, on bool, want []byte) {
	t.Helper()
	if got, err := Set(b, i, on); err != api.OK || !bytes.Equal(got, want) {
		t.Errorf("Set(%v, %d, %v): got %v, error %d, want %v", b, i, on, got, err, want)
	}
}

// With an error, there is nothing beside it (R2).
func refuseSet(t *testing.T, b []byte, i int) {
	t.Helper()
	for _, on := range []bool{true, false} {
		if got, err := Set(b, i, on); err != api.ErrArg || got != nil {
			t.Errorf("Set(%v, %d, %v): got %v, error %d, want error %d alone", b, i, on, got, err, api.ErrArg)
		}
	}
}

func checkCount(t *testing.T, b []byte, from, to, want int) {
	t.Helper()
	if got := Count(b, from, to); got != want {
		t.Errorf("Count(%v, %d, %d): got %d, want %d", b, from, to, got, want)
	}
}

func checkFirst(t *testing.T, b []byte, from, to, want int) {
	t.Helper()
	if got := First(b, from, to); got != want {
		t.Errorf("First(%v, %d, %d): got %d, want %d", b, from, to, got, want)
	}
}

// checkRange holds Count and First against the words, where bits are those of b.
func checkRange(t *testing.T, b []byte, bits string, from, to int) {
	t.Helper()
	checkCount(t, b, from, to, countByWords(bits, from, to))
	checkFirst(t, b, from, to, firstByWords(bits, from, to))
}

// P12.1: the example of the chapter.
func TestExample(t *testing.T) {
	b := []byte{5, 0}
	for i := range 16 {
		checkGet(t, b, i, i == 0 || i == 2)
	}
	checkCount(t, b, 0, 16, 2)
	checkFirst(t, b, 0, 16, 1)
}

// P12.1: results written out by hand, so that no code stands between the words and them.
func TestWrittenOut(t *testing.T) {
	checkGet(t, []byte{1}, 0, true)
	checkGet(t, []byte{1}, 7, false)
	checkGet(t, []byte{128}, 7, true)
	checkGet(t, []byte{128}, 0, false)
	checkGet(t, []byte{0, 1}, 8, true)
	checkGet(t, []byte{0, 1}, 0, false)
	checkGet(t, []byte{0, 0, 128}, 23, true)

	checkSet(t, []byte{0}, 0, true, []byte{1})
	checkSet(t, []byte{0}, 7, true, []byte{128})
	checkSet(t, []byte{0, 0}, 8, true, []byte{0, 1})
	checkSet(t, []byte{5, 0}, 1, true, []byte{7, 0})
	checkSet(t, []byte{5, 0}, 2, true, []byte{5, 0})
	checkSet(t, []byte{5, 0}, 2, false, []byte{1, 0})
	checkSet(t, []byte{5, 0}, 1, false, []byte{5, 0})
	checkSet(t, []byte{255, 255}, 15, false, []byte{255, 127})

	checkCount(t, []byte{255, 1, 128}, 0, 24, 10)
	checkCount(t, []byte{255, 1, 128}, 7, 9, 2)
	checkCount(t, []byte{255, 1, 128}, 9, 23, 0)
	checkCount(t, []byte{255, 1, 128}, 9, 24, 1)
	checkCount(t, []byte{255, 1, 128}, 3, 4, 1)

	checkFirst(t, []byte{255, 1, 128}, 0, 24, 9)
	checkFirst(t, []byte{255, 1, 128}, 0, 9, -1)
	checkFirst(t, []byte{255, 1, 128}, 0, 10, 9)
	checkFirst(t, []byte{255, 1, 128}, 12, 24, 12)
	checkFirst(t, []byte{255, 1, 128}, 23, 24, -1)
	checkFirst(t, []byte{0}, 7, 8, 7)
}

// P12.1: the end of the range is no part of it, the beginning is; a range that ends where it begins, or before, has no bits.
func TestEdgesOfRange(t *testing.T) {
	b := []byte{0b00010000, 0b11101111} // bit 4 is taken, and bit 12 alone is free in the second byte
	checkCount(t, b, 4, 5, 1)
	checkCount(t, b, 3, 4, 0)
	checkCount(t, b, 5, 8, 0)
	checkCount(t, b, 4, 4, 0)
	checkCount(t, b, 5, 4, 0)
	checkCount(t, b, 16, 0, 0)
	checkFirst(t, b, 8, 12, -1)
	checkFirst(t, b, 8, 13, 12)
	checkFirst(t, b, 12, 13, 12)
	checkFirst(t, b, 12, 12, -1)
	checkFirst(t, b, 13, 12, -1)
	checkFirst(t, b, 13, 16, -1)
	checkFirst(t, b, 16, 0, -1)
}

// P12.1: a beginning below 0 counts as 0; an end below 1 leaves no bits.
func TestBelowZero(t *testing.T) {
	for _, b := range bitmaps() {
		bits := bitsByWords(b)
		for _, from := range belowZero {
			for _, to := range []int{0, 1, 2, 7, 8, 9, len(bits) - 1, len(bits), len(bits) + 1, math.MaxInt} {
				if got, want := Count(b, from, to), Count(b, 0, to); got != want {
					t.Errorf("Count(%v, %d, %d): got %d, from 0 on %d", b, from, to, got, want)
				}
				if got, want := First(b, from, to), First(b, 0, to); got != want {
					t.Errorf("First(%v, %d, %d): got %d, from 0 on %d", b, from, to, got, want)
				}
				checkRange(t, b, bits, from, to)
			}
			for _, to := range append([]int{0}, belowZero...) {
				checkCount(t, b, from, to, 0)
				checkFirst(t, b, from, to, -1)
			}
		}
	}
}

// P12.1: a bit that is in no byte is 0, but it is not free, and it can't be set.
func TestBitsInNoByte(t *testing.T) {
	for _, b := range bitmaps() {
		size := 8 * len(b)
		for _, i := range append([]int{size, size + 1, size + 7, size + 8, size + 9, 2*size + 16}, far()...) {
			checkGet(t, b, i, false)
			refuseSet(t, b, i)
			if i >= size {
				checkCount(t, b, i, math.MaxInt, 0)
				checkFirst(t, b, i, math.MaxInt, -1)
				checkRange(t, b, bitsByWords(b), 0, i)
				checkRange(t, b, bitsByWords(b), size-1, i)
			}
		}
	}
	checkFirst(t, []byte{255}, 0, 9, -1)
	checkFirst(t, []byte{255, 255}, 8, 100, -1)
}

// P12.1: no bytes have no bits, whether the list is nil or empty.
func TestNothing(t *testing.T) {
	for _, b := range [][]byte{nil, {}, make([]byte, 0, 3)} {
		for _, i := range append([]int{0, 1, 7, 8, 23, 24}, far()...) {
			checkGet(t, b, i, false)
			refuseSet(t, b, i)
			for _, to := range append([]int{0, 1, 8, 24}, far()...) {
				checkCount(t, b, i, to, 0)
				checkFirst(t, b, i, to, -1)
			}
		}
	}
}

// P12.1: the bytes that stand in memory behind the list, up to its capacity, are none of its own.
func TestMemoryBehind(t *testing.T) {
	room := []byte{255, 255, 0, 255}
	b := room[:2]
	checkGet(t, b, 24, false)
	refuseSet(t, b, 16)
	checkCount(t, b, 0, 32, 16)
	checkFirst(t, b, 0, 32, -1)
}

// P12.1: each bit of each byte, asked, set and cleared.
func TestEachByte(t *testing.T) {
	for x := range 256 {
		for place := range 3 {
			b := bytes.Repeat([]byte{byte(255 * (x % 2))}, 3)
			b[place] = byte(x)
			bits := bitsByWords(b)
			for i := range bits {
				checkGet(t, b, i, bits[i] == '1')
				checkSet(t, b, i, true, setByWords(b, i, true))
				checkSet(t, b, i, false, setByWords(b, i, false))
			}
		}
	}
}

// P12.1: all ranges of all bitmaps of one byte, and of some of two and three.
func TestAllRanges(t *testing.T) {
	var l [][]byte
	for x := range 256 {
		l = append(l, []byte{byte(x)}, []byte{byte(x), byte(255 - x)}, []byte{255, byte(x), 0}, []byte{byte(x), byte(x), byte(x)})
	}
	for _, b := range l {
		bits := bitsByWords(b)
		for from := -2; from <= len(bits)+2; from++ {
			for to := -2; to <= len(bits)+2; to++ {
				checkRange(t, b, bits, from, to)
			}
		}
	}
}

// P12.1: Count and First of bitmaps where one bit differs from all others.
func TestOneBitDiffers(t *testing.T) {
	const size = 128
	for i := range size {
		one, _ := Set(make([]byte, size/8), i, true)
		other, _ := Set(bytes.Repeat([]byte{255}, size/8), i, false)
		for _, edge := range []int{0, 1, 7, 8, i - 1, i, i + 1, i + 8, size - 1, size, size + 1, math.MaxInt} {
			for _, b := range [][]byte{one, other} {
				bits := bitsByWords(b)
				checkRange(t, b, bits, 0, edge)
				checkRange(t, b, bits, edge, size)
				checkRange(t, b, bits, i, edge)
				checkRange(t, b, bits, edge, i)
			}
		}
	}
}

// P12.1: any bitmaps, indices and ranges, by chance, return what the words say.
func TestAnyCalls(t *testing.T) {
	source, edges := rand.New(rand.NewSource(2)), far()
	for _, b := range bitmaps() {
		bits := bitsByWords(b)
		index := func() int {
			if source.Intn(10) == 0 {
				return edges[source.Intn(len(edges))]
			}
			return source.Intn(len(bits)+20) - 10
		}
		for range 400 {
			checkRange(t, b, bits, index(), index())
			i, on := index(), source.Intn(2) == 0
			if i < 0 || i >= len(bits) {
				checkGet(t, b, i, false)
				refuseSet(t, b, i)
				continue
			}
			checkGet(t, b, i, bits[i] == '1')
			checkSet(t, b, i, on, setByWords(b, i, on))
		}
	}
}

// P12.1: about as many bits as a number of two bytes can count, and many more.
func TestLongBitmaps(t *testing.T) {
	for _, n := range []int{8191, 8192, 8193, 100003, 1 << 20} {
		b := bytes.Repeat([]byte{255}, n)
		checkLong(t, b, 8*n, -1)
		for _, i := range []int{0, 65535, 65536, 8*n - 1} {
			if i >= 8*n {
				continue
			}
			got, err := Set(b, i, false)
			if err != api.OK {
				t.Fatalf("Set of bit %d of %d bytes: error %d", i, n, err)
			}
			checkLong(t, got, 8*n-1, i)
			if Get(got, i) || !Get(b, i) {
				t.Errorf("bit %d of %d bytes: not the one that was cleared", i, n)
			}
		}
	}
}

func checkLong(t *testing.T, b []byte, wantCount, wantFirst int) {
	t.Helper()
	if got := Count(b, 0, math.MaxInt); got != wantCount {
		t.Errorf("Count of %d bytes: got %d, want %d", len(b), got, wantCount)
	}
	if got := First(b, math.MinInt, 8*len(b)); got != wantFirst {
		t.Errorf("First of %d bytes: got %d, want %d", len(b), got, wantFirst)
	}
}

// P12.2: the bytes, and the memory around them, are as they were, whatever the result is.
func TestBytesUnchanged(t *testing.T) {
	room := []byte{200, 5, 0, 201, 202}
	kept := slices.Clone(room)
	b := room[1:3]
	for i := -3; i < 40; i++ {
		Get(b, i)
		Set(b, i, true)
		Set(b, i, false)
		for to := -3; to < 40; to++ {
			Count(b, i, to)
			First(b, i, to)
		}
	}
	if !bytes.Equal(room, kept) {
		t.Errorf("behind the calls: got %v, want %v", room, kept)
	}
}

// P12.2: what Set returned shares no memory with its argument, nor with what it returned before, also if no bit differs.
func TestNewMemory(t *testing.T) {
	for _, original := range bitmaps() {
		for i := range 8 * len(original) {
			for _, on := range []bool{true, false} {
				b := append(make([]byte, 0, len(original)+100), original...)
				want := setByWords(original, i, on)
				first, _ := Set(b, i, on)
				second, _ := Set(b, i, on)
				clear(first[:cap(first)])
				if !bytes.Equal(b, original) || !bytes.Equal(second, want) {
					t.Fatalf("Set(%v, %d, %v): a change of the result changed the argument or another result", original, i, on)
				}
				clear(b[:cap(b)])
				if !bytes.Equal(second, want) {
					t.Fatalf("Set(%v, %d, %v): a change of the argument changed the result", original, i, on)
				}
			}
		}
	}
}

// P12.3: a bit that is set is counted, and First does not find it any more; if it is cleared, all is as it was.
func TestSetIsCounted(t *testing.T) {
	for _, b := range bitmaps() {
		size := 8 * len(b)
		for i := range size {
			free := !Get(b, i)
			cleared, _ := Set(b, i, false)
			taken, err := Set(cleared, i, true)
			if err != api.OK || !Get(taken, i) || Get(cleared, i) {
				t.Errorf("bit %d of %v: not set, error %d", i, b, err)
			}
			checkCount(t, taken, 0, size, Count(cleared, 0, size)+1)
			checkCount(t, taken, i, i+1, 1)
			checkCount(t, cleared, i, i+1, 0)
			checkFirst(t, taken, i, i+1, -1)
			checkFirst(t, cleared, i, i+1, i)
			if got := First(taken, i, size); got == i {
				t.Errorf("First(%v, %d, %d): got the bit that is set", taken, i, size)
			}
			if back, _ := Set(taken, i, !free); !bytes.Equal(back, b) {
				t.Errorf("bit %d of %v: got %v as it was restored", i, b, back)
			}
		}
	}
}

// P12.3: taking what First finds takes all that is free, in increasing order, and nothing else.
func TestTakeAll(t *testing.T) {
	for _, b := range bitmaps() {
		from, to := len(b), 7*len(b)
		bits, now := bitsByWords(b), b
		digits, at := part(bits, from, to)
		for i := range digits {
			if digits[i] == '1' {
				continue
			}
			checkFirst(t, now, from, to, at+i)
			next, err := Set(now, at+i, true)
			if err != api.OK {
				t.Fatalf("Set(%v, %d, true): error %d", now, at+i, err)
			}
			now = next
		}
		checkFirst(t, now, from, to, -1)
		checkCount(t, now, from, to, len(digits))
		checkCount(t, now, 0, from, Count(b, 0, from))
		checkCount(t, now, to, 8*len(b), Count(b, to, 8*len(b)))
	}
}

// P12.3: what Count counts of two parts is what it counts of both; each bit counts as Get tells it.
func TestCountOfParts(t *testing.T) {
	for _, b := range bitmaps() {
		size := 8 * len(b)
		sum := 0
		for i := range size {
			checkCount(t, b, 0, i, sum)
			if Get(b, i) {
				sum++
			}
			checkCount(t, b, i, i+1, sum-Count(b, 0, i))
			checkCount(t, b, i, size, Count(b, 0, size)-Count(b, 0, i))
		}
		checkCount(t, b, 0, size, sum)
	}
}

// The bits are visited in order, and none any more after the closure wants no more.
func TestVisitEnds(t *testing.T) {
	b := []byte{5, 0}
	for ask := 1; ask <= 16; ask++ {
		var got, want []int
		visit(b, -3, 100, func(i int) bool {
			got = append(got, i)
			return len(got) < ask
		})
		for i := range ask {
			want = append(want, i)
		}
		if !slices.Equal(got, want) {
			t.Errorf("the first %d bits: got %v, want %v", ask, got, want)
		}
	}
}

// R4: neither calls before nor calls at the same time influence a call.
func TestCallsAtOnce(t *testing.T) {
	shared := bytes.Repeat([]byte{0xa5}, 16)
	bits := bitsByWords(shared)
	var wait sync.WaitGroup
	for n := range 16 {
		wait.Go(func() {
			source := rand.New(rand.NewSource(int64(n % 4)))
			for range 500 {
				i, to := source.Intn(len(bits)), source.Intn(len(bits)+10)
				refuseSet(t, shared, len(bits)+i)
				checkGet(t, shared, i, bits[i] == '1')
				checkSet(t, shared, i, to%2 == 0, setByWords(shared, i, to%2 == 0))
				checkRange(t, shared, bits, i, to)
			}
		})
	}
	wait.Wait()
}
