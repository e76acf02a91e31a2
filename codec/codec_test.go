package codec

import (
	"bytes"
	"math"
	"math/big"
	"math/rand"
	"slices"
	"sync"
	"testing"

	"padlock/api"
)

// invalidWidths are those beside the edges, and those that wrap round or are a valid one modulo 8, 256 or 2^32.
var invalidWidths = []int{0, 9, -1, -8, 10, 16, 64, 255, 256, 257, -255, 1 << 31, 1<<31 - 1, -1 << 31, 1 << 32, 1<<32 + 1, 1<<32 + 8, math.MaxInt, math.MinInt, math.MinInt + 1}

// validLists are lists of widths: none, each width alone, all of them, the same one again, and mixed ones.
func validLists() [][]int {
	return [][]int{
		nil, {}, {1}, {2}, {3}, {4}, {5}, {6}, {7}, {8},
		{1, 2}, {2, 1}, {1, 1}, {8, 8}, {1, 8}, {8, 1}, {4, 4, 4},
		{1, 2, 3, 4, 5, 6, 7, 8}, {8, 7, 6, 5, 4, 3, 2, 1},
		{1, 2, 1, 1, 1, 1, 1}, {3, 3, 3, 5, 8, 2, 7, 1, 1, 6, 4},
		slices.Repeat([]int{1, 8, 3}, 100),
	}
}

// last returns the greatest number of the width.
func last(width int) uint64 {
	return powerOf256(width) - 1
}

// powerOf256 returns 0 for 8, as its power has no room; one less is the greatest number all the same.
func powerOf256(n int) uint64 {
	power := uint64(1)
	for range n {
		power *= 256
	}
	return power
}

// edges are numbers of the width: those around the powers of 256, and some whose bytes all differ.
func edges(width int) []uint64 {
	l := []uint64{0, 1, 127, 128, 254, 255, last(width), last(width) - 1, last(width) / 2, last(width)/2 + 1}
	for n := 1; n < width; n++ {
		l = append(l, powerOf256(n)-1, powerOf256(n), powerOf256(n)+1)
	}
	return append(l, 0x0102030405060708&last(width), 0xf8e7d6c5b4a39281&last(width))
}

// numbersFor returns numbers that fit the widths, and others for another source.
func numbersFor(widths []int, source *rand.Rand) []uint64 {
	l := make([]uint64, len(widths))
	for i, width := range widths {
		l[i] = source.Uint64() & last(width)
		if source.Intn(4) == 0 {
			near := edges(width)
			l[i] = near[source.Intn(len(near))]
		}
	}
	return l
}

func someWidths(source *rand.Rand) []int {
	widths := make([]int, source.Intn(12))
	for i := range widths {
		widths[i] = 1 + source.Intn(8)
	}
	return widths
}

// encodedByWords is the encoding as the chapter's words give it, by numbers without a limit.
func encodedByWords(widths []int, l []uint64) []byte {
	var b []byte
	for i, width := range widths {
		part := make([]byte, width)
		b = append(b, new(big.Int).SetUint64(l[i]).FillBytes(part)...)
	}
	return b
}

func widthsSum(widths []int) int {
	sum := 0
	for _, width := range widths {
		sum += width
	}
	return sum
}

func checkPut(t *testing.T, widths []int, l []uint64, want []byte) {
	t.Helper()
	if got, err := Put(widths, l); err != api.OK || !bytes.Equal(got, want) {
		t.Errorf("Put(%v, %v): got %v, error %d, want %v", widths, l, got, err, want)
	}
}

func checkGet(t *testing.T, widths []int, b []byte, want []uint64) {
	t.Helper()
	if got, err := Get(widths, b); err != api.OK || !slices.Equal(got, want) {
		t.Errorf("Get(%v, %v): got %v, error %d, want %v", widths, b, got, err, want)
	}
}

// With an error, there is nothing beside it (R2).
func refusePut(t *testing.T, widths []int, l []uint64) {
	t.Helper()
	if got, err := Put(widths, l); err != api.ErrArg || got != nil {
		t.Errorf("Put(%v, %v): got %v, error %d, want error %d alone", widths, l, got, err, api.ErrArg)
	}
}

func refuseGet(t *testing.T, widths []int, b []byte) {
	t.Helper()
	if got, err := Get(widths, b); err != api.ErrArg || got != nil {
		t.Errorf("Get(%v, %v): got %v, error %d, want error %d alone", widths, b, got, err, api.ErrArg)
	}
}

// P5.1: the example of the chapter.
func TestExample(t *testing.T) {
	widths, l, b := []int{1, 2}, []uint64{7, 258}, []byte{7, 1, 2}
	checkPut(t, widths, l, b)
	checkGet(t, widths, b, l)
	if got := Wide(widths); got != 3 {
		t.Errorf("Wide(%v): got %d, want 3", widths, got)
	}
}

// P5.1 and R3: no widths and no numbers are no bytes, whether the lists are nil or empty.
func TestNothing(t *testing.T) {
	for _, widths := range [][]int{nil, {}, make([]int, 0, 3)} {
		if got := Wide(widths); got != 0 {
			t.Errorf("Wide(%v): got %d, want 0", widths, got)
		}
		for _, l := range [][]uint64{nil, {}, make([]uint64, 0, 3)} {
			checkPut(t, widths, l, nil)
		}
		for _, b := range [][]byte{nil, {}, make([]byte, 0, 3)} {
			checkGet(t, widths, b, nil)
		}
	}
}

// P5.1: encodings written out by hand, so that no code stands between the words and them.
func TestWrittenOut(t *testing.T) {
	for _, c := range []struct {
		widths []int
		l      []uint64
		b      []byte
	}{
		{[]int{1}, []uint64{0}, []byte{0}},
		{[]int{1}, []uint64{255}, []byte{255}},
		{[]int{2}, []uint64{255}, []byte{0, 255}},
		{[]int{2}, []uint64{256}, []byte{1, 0}},
		{[]int{3}, []uint64{1}, []byte{0, 0, 1}},
		{[]int{4}, []uint64{0x01020304}, []byte{1, 2, 3, 4}},
		{[]int{5}, []uint64{0x0102030405}, []byte{1, 2, 3, 4, 5}},
		{[]int{6}, []uint64{0xfffefdfcfbfa}, []byte{255, 254, 253, 252, 251, 250}},
		{[]int{7}, []uint64{1 << 48}, []byte{1, 0, 0, 0, 0, 0, 0}},
		{[]int{8}, []uint64{0xf0e0d0c0b0a09080}, []byte{0xf0, 0xe0, 0xd0, 0xc0, 0xb0, 0xa0, 0x90, 0x80}},
		{[]int{8}, []uint64{math.MaxUint64}, []byte{255, 255, 255, 255, 255, 255, 255, 255}},
		{[]int{8}, []uint64{1 << 63}, []byte{128, 0, 0, 0, 0, 0, 0, 0}},
		{[]int{2, 1, 3}, []uint64{0, 9, 65536}, []byte{0, 0, 9, 1, 0, 0}},
		{[]int{1, 2, 1, 1, 1, 1, 1}, []uint64{2, 0x0304, 5, 6, 7, 8, 9}, []byte{2, 3, 4, 5, 6, 7, 8, 9}},
	} {
		checkPut(t, c.widths, c.l, c.b)
		checkGet(t, c.widths, c.b, c.l)
	}
}

// P5.1: Wide is the sum of the widths.
func TestWide(t *testing.T) {
	for _, widths := range validLists() {
		if got, want := Wide(widths), widthsSum(widths); got != want {
			t.Errorf("Wide(%v): got %d, want %d", widths, got, want)
		}
	}
	for width := 1; width <= 8; width++ {
		for _, n := range []int{1, 2, 31, 32, 33, 255, 256, 257, 70000} {
			if got := Wide(slices.Repeat([]int{width}, n)); got != width*n {
				t.Errorf("Wide of %d times %d: got %d, want %d", n, width, got, width*n)
			}
		}
	}
}

// P5.1: every width from 1 to 8, with all its edges, and with each value of each of its bytes.
func TestEachWidth(t *testing.T) {
	for width := 1; width <= 8; width++ {
		widths, l := []int{width}, edges(width)
		for place := range width {
			for x := range uint64(256) {
				l = append(l, x*powerOf256(place))
			}
		}
		for _, x := range l {
			if x > last(width) {
				continue
			}
			want := encodedByWords(widths, []uint64{x})
			checkPut(t, widths, []uint64{x}, want)
			checkGet(t, widths, want, []uint64{x})
		}
	}
}

// P5.1: the numbers stand one after the other, each with its own width.
func TestEachList(t *testing.T) {
	source := rand.New(rand.NewSource(1))
	for _, widths := range validLists() {
		for range 50 {
			l := numbersFor(widths, source)
			want := encodedByWords(widths, l)
			checkPut(t, widths, l, want)
			checkGet(t, widths, want, l)
		}
	}
}

// P5.1: a width that is not from 1 to 8, at each place of a list.
func TestInvalidWidths(t *testing.T) {
	for _, invalid := range invalidWidths {
		for _, widths := range [][]int{{}, {1}, {8}, {1, 2}, {8, 1, 8}, slices.Repeat([]int{1}, 9)} {
			for place := range len(widths) + 1 {
				list := slices.Insert(slices.Clone(widths), place, invalid)
				if got := Wide(list); got != -1 {
					t.Errorf("Wide(%v): got %d, want -1", list, got)
				}
				refusePut(t, list, make([]uint64, len(list)))
				refusePut(t, list, make([]uint64, len(widths)))
				refusePut(t, list, nil)
				for n := range 30 {
					refuseGet(t, list, make([]byte, n))
				}
			}
		}
	}
}

// P5.1: widths that are not valid, though their sum is a number of bytes, or -1.
func TestInvalidWidthsWithSums(t *testing.T) {
	for _, widths := range [][]int{{-1}, {0}, {9}, {1, -2}, {-1, 1}, {1, -1}, {-1, 4}, {4, 0}, {0, 4}, {16, -8}, {math.MaxInt, math.MinInt}, {math.MinInt, math.MinInt}, {math.MaxInt, 2, math.MaxInt}} {
		if got := Wide(widths); got != -1 {
			t.Errorf("Wide(%v): got %d, want -1", widths, got)
		}
		refusePut(t, widths, make([]uint64, len(widths)))
		for n := range 20 {
			refuseGet(t, widths, make([]byte, n))
		}
		refuseGet(t, widths, nil)
	}
}

// P5.1, Put: fewer or more numbers than widths, none at all among them.
func TestOtherNumberOfNumbers(t *testing.T) {
	for _, widths := range validLists() {
		for n := range len(widths) + 5 {
			if n != len(widths) {
				refusePut(t, widths, make([]uint64, n))
			}
		}
		if len(widths) > 0 {
			refusePut(t, widths, nil)
			refusePut(t, nil, make([]uint64, len(widths)))
		}
	}
	refusePut(t, nil, []uint64{0})
}

// P5.1, Put: a number of 256 to the power of the width is too large, and the one below it is not.
func TestTooLarge(t *testing.T) {
	for width := 1; width < 8; width++ {
		checkPut(t, []int{width}, []uint64{last(width)}, bytes.Repeat([]byte{255}, width))
		for _, x := range []uint64{last(width) + 1, last(width) + 2, 2 * powerOf256(width), last(width + 1), 1 << 63, math.MaxUint64, math.MaxUint64 - last(width), 1<<63 + 5} {
			refusePut(t, []int{width}, []uint64{x})
		}
		for shift := 8 * width; shift < 64; shift++ {
			refusePut(t, []int{width}, []uint64{1 << shift})
			refusePut(t, []int{width}, []uint64{1<<shift | 1})
		}
	}
}

// P5.1, Put: one number that is too large, at each place of a list; next to it is a width that it would fit.
func TestTooLargeAtEachPlace(t *testing.T) {
	source := rand.New(rand.NewSource(2))
	for _, widths := range validLists() {
		l := numbersFor(widths, source)
		for place, width := range widths {
			if width == 8 {
				continue
			}
			large := slices.Clone(l)
			large[place] = powerOf256(width)
			refusePut(t, widths, large)
			large[place] = last(width)
			checkPut(t, widths, large, encodedByWords(widths, large))
		}
	}
}

// P5.1, Get: every number of bytes but Wide.
func TestOtherNumberOfBytes(t *testing.T) {
	for _, widths := range validLists() {
		size := widthsSum(widths)
		for n := range size + 20 {
			if n != size {
				refuseGet(t, widths, make([]byte, n))
				refuseGet(t, widths, bytes.Repeat([]byte{255}, n))
			}
		}
		if size > 0 {
			refuseGet(t, widths, nil)
		}
	}
}

// P5.1: more numbers than one byte or two can count.
func TestLongLists(t *testing.T) {
	source := rand.New(rand.NewSource(3))
	for _, n := range []int{255, 256, 257, 65535, 65536, 65537, 200001} {
		widths := make([]int, n)
		for i := range widths {
			widths[i] = 1 + (i*5+i/8)%8
		}
		l := numbersFor(widths, source)
		want := encodedByWords(widths, l)
		if got, err := Put(widths, l); err != api.OK || !bytes.Equal(got, want) {
			t.Errorf("Put of %d numbers: not their encoding, error %d", n, err)
		}
		if got, err := Get(widths, want); err != api.OK || !slices.Equal(got, l) {
			t.Errorf("Get of %d numbers: not the numbers, error %d", n, err)
		}
		if got := Wide(widths); got != len(want) {
			t.Errorf("Wide of %d widths: got %d, want %d", n, got, len(want))
		}
	}
}

// P5.2: the arguments, and the memory around them, are as they were, whatever the answer is.
func TestArgumentsUnchanged(t *testing.T) {
	roomWidths, roomNumbers, roomBytes := []int{7, 1, 2, 7, 9}, []uint64{1 << 60, 7, 258, 1 << 61, 3}, []byte{200, 7, 1, 2, 201, 202}
	widths, l, b := roomWidths[1:3], roomNumbers[1:3], roomBytes[1:4]
	Wide(widths)
	checkPut(t, widths, l, []byte{7, 1, 2})
	checkGet(t, widths, b, []uint64{7, 258})
	Wide(roomWidths)
	refusePut(t, roomWidths, roomNumbers)
	refusePut(t, roomWidths[:2], roomNumbers[:2])
	refusePut(t, widths, roomNumbers)
	refuseGet(t, roomWidths, roomBytes)
	refuseGet(t, widths, roomBytes)
	if !slices.Equal(roomWidths, []int{7, 1, 2, 7, 9}) || !slices.Equal(roomNumbers, []uint64{1 << 60, 7, 258, 1 << 61, 3}) || !bytes.Equal(roomBytes, []byte{200, 7, 1, 2, 201, 202}) {
		t.Errorf("behind the calls: %v, %v, %v", roomWidths, roomNumbers, roomBytes)
	}
}

// P5.2: what Put returned shares no memory with its arguments, nor with what it returned before.
func TestBytesAreNewMemory(t *testing.T) {
	source := rand.New(rand.NewSource(4))
	for _, widths := range validLists() {
		l := numbersFor(widths, source)
		want := encodedByWords(widths, l)
		keptWidths, keptNumbers := slices.Clone(widths), slices.Clone(l)
		first, _ := Put(widths, l)
		second, _ := Put(widths, l)
		clear(first[:cap(first)])
		if !bytes.Equal(second, want) {
			t.Errorf("widths %v: a change of a result changed another one", widths)
		}
		if !slices.Equal(widths, keptWidths) || !slices.Equal(l, keptNumbers) {
			t.Errorf("widths %v: a change of the result changed an argument", keptWidths)
		}
		clear(widths)
		clear(l)
		if !bytes.Equal(second, want) {
			t.Errorf("widths %v: a change of an argument changed the result", keptWidths)
		}
		checkPut(t, keptWidths, keptNumbers, want)
	}
}

// P5.2: what Get returned shares no memory with its arguments, nor with what it returned before.
func TestNumbersAreNewMemory(t *testing.T) {
	source := rand.New(rand.NewSource(5))
	for _, widths := range validLists() {
		want := numbersFor(widths, source)
		b := encodedByWords(widths, want)
		keptWidths, keptBytes := slices.Clone(widths), bytes.Clone(b)
		first, _ := Get(widths, b)
		second, _ := Get(widths, b)
		clear(first[:cap(first)])
		if !slices.Equal(second, want) {
			t.Errorf("widths %v: a change of a result changed another one", widths)
		}
		if !slices.Equal(widths, keptWidths) || !bytes.Equal(b, keptBytes) {
			t.Errorf("widths %v: a change of the result changed an argument", keptWidths)
		}
		clear(widths)
		clear(b)
		if !slices.Equal(second, want) {
			t.Errorf("widths %v: a change of an argument changed the result", keptWidths)
		}
		checkGet(t, keptWidths, keptBytes, want)
	}
}

// P5.3: Get returns what Put encoded.
func TestNumbersRestored(t *testing.T) {
	source := rand.New(rand.NewSource(6))
	for range 5000 {
		widths := someWidths(source)
		l := numbersFor(widths, source)
		b, err := Put(widths, l)
		if err != api.OK || len(b) != Wide(widths) {
			t.Errorf("Put(%v, %v): %d bytes, error %d", widths, l, len(b), err)
		}
		checkGet(t, widths, b, l)
	}
}

// P5.3: Put returns what Get read: any bytes, if there are as many as the widths say.
func TestBytesRestored(t *testing.T) {
	source := rand.New(rand.NewSource(7))
	for i := range 5000 {
		widths := someWidths(source)
		b := make([]byte, widthsSum(widths))
		source.Read(b)
		if i%3 == 0 {
			b = bytes.Repeat([]byte{byte(255 * (i % 2))}, len(b))
		}
		l, err := Get(widths, b)
		if err != api.OK || len(l) != len(widths) {
			t.Errorf("Get(%v, %v): %d numbers, error %d", widths, b, len(l), err)
		}
		checkPut(t, widths, l, b)
	}
}

// P5.3: other numbers have other bytes: each bit of each number matters.
func TestOneBitDiffers(t *testing.T) {
	source := rand.New(rand.NewSource(8))
	for _, widths := range [][]int{{1}, {8}, {1, 2, 3}, {8, 1, 7}, {1, 2, 3, 4, 5, 6, 7, 8}} {
		l := numbersFor(widths, source)
		seen := map[string]bool{string(encodedByWords(widths, l)): true}
		for place, width := range widths {
			for bit := range 8 * width {
				near := slices.Clone(l)
				near[place] ^= 1 << bit
				got, err := Put(widths, near)
				if err != api.OK || seen[string(got)] {
					t.Errorf("Put(%v, %v): got %v, error %d: seen before", widths, near, got, err)
				}
				seen[string(got)] = true
				checkGet(t, widths, got, near)
			}
		}
	}
}

// The bytes of a number end where the one who asks for them ends, as the language wants it of such a function.
func TestBytesEndEarly(t *testing.T) {
	for ask := 1; ask <= 4; ask++ {
		var got []byte
		for x := range numberBytes(0x01020304, 4) {
			got = append(got, x)
			if len(got) == ask {
				break
			}
		}
		if want := []byte{1, 2, 3, 4}[:ask]; !bytes.Equal(got, want) {
			t.Errorf("the first %d bytes: got %v, want %v", ask, got, want)
		}
	}
}

// R4: neither calls before nor calls at the same time influence a call.
func TestCallsAtOnce(t *testing.T) {
	shared := []int{1, 2, 3, 4, 5, 6, 7, 8}
	numbers, encodings := make([][]uint64, 64), make([][]byte, 64)
	var wait sync.WaitGroup
	for i := range numbers {
		wait.Go(func() {
			l := numbersFor(shared, rand.New(rand.NewSource(int64(i))))
			refusePut(t, shared, l[1:])
			encodings[i], _ = Put(shared, l)
			numbers[i], _ = Get(shared, encodings[i])
			refuseGet(t, shared, encodings[i][1:])
		})
	}
	wait.Wait()
	for i := range numbers {
		l := numbersFor(shared, rand.New(rand.NewSource(int64(i))))
		want := encodedByWords(shared, l)
		if !bytes.Equal(encodings[i], want) || !slices.Equal(numbers[i], l) {
			t.Errorf("call %d: got %v and %v, want %v and %v", i, encodings[i], numbers[i], want, l)
		}
		checkPut(t, shared, l, want)
		checkGet(t, shared, want, l)
	}
}
