package cache

import (
	"bytes"
	"maps"
	"math"
	"math/rand"
	"slices"
	"strconv"
	"strings"
	"sync"
	"testing"

	"padlock/api"
)

// sizes are numbers of shards, and of entries for which one has room: the least and the greatest, and others.
var sizes = []int{1, 2, 3, 4, 5, 7, 8, 16, 31, 63, 64}

// wrongSizes are none.
var wrongSizes = []int{0, -1, -2, -64, 65, 66, 128, 1 << 16, 1 << 32, 1<<32 + 5, math.MinInt32, math.MaxInt32, math.MinInt, math.MinInt + 1, math.MaxInt}

// wrongBlocks are no blocks.
var wrongBlocks = []int{-1, -2, -3, -4, -63, -64, -65, -1 << 32, math.MinInt32, math.MinInt, math.MinInt + 1}

// pattern returns bytes without much order, and other ones for another seed.
func pattern(seed int) []byte {
	return []byte(strconv.Itoa(seed*seed*31+7*seed+1) + " of " + strconv.Itoa(seed))
}

// wordsEntry is an entry as the words of the chapter tell it.
type wordsEntry struct {
	place, pins int
	bytes       string
	flag        bool
}

// wordsCache is a cache as the words tell it: the entries by their blocks.
type wordsCache struct {
	shards, room int
	entries      map[int]*wordsEntry
	hands        []int
	gets, found  int
}

func newWordsCache(shards, room int) *wordsCache {
	return &wordsCache{shards: shards, room: room, entries: map[int]*wordsEntry{}, hands: make([]int, shards)}
}

// blockAt returns the block with an entry at a place of the shard of block i, or -1 if it is free.
func (w *wordsCache) blockAt(i, place int) int {
	for block, e := range w.entries {
		if block%w.shards == i%w.shards && e.place == place {
			return block
		}
	}
	return -1
}

// placeFor returns a place for block i, which is free then, or -1 if none can be had.
func (w *wordsCache) placeFor(i int) int {
	for place := 0; place < w.room; place++ {
		if w.blockAt(i, place) < 0 {
			return place
		}
	}
	hand := &w.hands[i%w.shards]
	for visit := 0; visit < w.room+w.room; visit++ {
		place := *hand
		*hand++
		if *hand == w.room {
			*hand = 0
		}
		block := w.blockAt(i, place)
		switch e := w.entries[block]; {
		case e.pins > 0:
		case e.flag:
			e.flag = false
		default:
			delete(w.entries, block)
			return place
		}
	}
	return -1
}

func (w *wordsCache) get(i int) (string, bool) {
	w.gets++
	e, ok := w.entries[i]
	if !ok {
		return "", false
	}
	w.found++
	e.flag = true
	return e.bytes, true
}

func (w *wordsCache) put(i int, b string) bool {
	if i < 0 {
		return false
	}
	if e, ok := w.entries[i]; ok {
		e.bytes, e.flag = b, true
		return true
	}
	place := w.placeFor(i)
	if place < 0 {
		return false
	}
	w.entries[i] = &wordsEntry{place: place, bytes: b, flag: true}
	return true
}

func (w *wordsCache) pin(i int) bool {
	e, ok := w.entries[i]
	if ok {
		e.pins++
	}
	return ok
}

func (w *wordsCache) unpin(i int) bool {
	e, ok := w.entries[i]
	if !ok || e.pins == 0 {
		return false
	}
	e.pins--
	return true
}

func (w *wordsCache) drop(i int) bool {
	e, ok := w.entries[i]
	if !ok || e.pins > 0 {
		return false
	}
	delete(w.entries, i)
	return true
}

func (w *wordsCache) has() []int {
	return slices.Sorted(maps.Keys(w.entries))
}

func newCache(t *testing.T, shards, room int) *Cache {
	t.Helper()
	c, err := New(shards, room)
	if c == nil || err != api.OK {
		t.Fatalf("New(%d, %d): got %v, error %d", shards, room, c, err)
	}
	return c
}

// filled returns a cache with one shard, all of whose places are taken: those of the blocks 0, 1 and so on, with their patterns.
func filled(t *testing.T, room int) *Cache {
	t.Helper()
	c := newCache(t, 1, room)
	for i := range room {
		checkPut(t, c, i, pattern(i), true)
	}
	return c
}

func checkGet(t *testing.T, c *Cache, i int, want []byte) {
	t.Helper()
	if b, ok := c.Get(i); !ok || !bytes.Equal(b, want) {
		t.Errorf("Get(%d): got %q, %v, want %q", i, b, ok, want)
	}
}

func checkGetsNone(t *testing.T, c *Cache, i int) {
	t.Helper()
	if b, ok := c.Get(i); ok || len(b) != 0 {
		t.Errorf("Get(%d): got %q, %v", i, b, ok)
	}
}

func checkPut(t *testing.T, c *Cache, i int, b []byte, want bool) {
	t.Helper()
	if got := c.Put(i, b); got != want {
		t.Errorf("Put(%d): got %v, want %v", i, got, want)
	}
}

// check holds a result of Pin, Unpin or Drop against what is wanted.
func check(t *testing.T, what string, got, want bool) {
	t.Helper()
	if got != want {
		t.Errorf("%s: got %v, want %v", what, got, want)
	}
}

func checkHas(t *testing.T, c *Cache, want ...int) {
	t.Helper()
	if got := c.Has(); !slices.Equal(got, want) {
		t.Errorf("Has: got %v, want %v", got, want)
	}
}

func checkRate(t *testing.T, c *Cache, found, gets int) {
	t.Helper()
	got := c.Rate()
	if gets == 0 {
		if !math.IsNaN(got) {
			t.Errorf("Rate without calls of Get: got %v", got)
		}
		return
	}
	if want := float64(found) / float64(gets); got != want {
		t.Errorf("Rate: got %v, want %v", got, want)
	}
}

// The example of the chapter.
func TestExample(t *testing.T) {
	c := newCache(t, 1, 2)
	for i := 1; i <= 3; i++ {
		checkPut(t, c, i, pattern(i), true)
	}
	checkHas(t, c, 2, 3)
	checkGetsNone(t, c, 1)
}

// P10.1: a cache has from 1 to 64 shards, each with room for 1 to 64 entries, and there are none at first.
func TestNew(t *testing.T) {
	for shards := 1; shards <= 64; shards++ {
		for room := 1; room <= 64; room++ {
			c := newCache(t, shards, room)
			checkHas(t, c)
			checkRate(t, c, 0, 0)
		}
	}
}

// P10.1: New returns ErrArg, and no cache, if one of the numbers is any other.
func TestNewOfWrongSizes(t *testing.T) {
	for _, wrong := range wrongSizes {
		for _, other := range append(slices.Clone(sizes), wrongSizes...) {
			if c, err := New(wrong, other); c != nil || err != api.ErrArg {
				t.Errorf("New(%d, %d): got %v, error %d", wrong, other, c, err)
			}
			if c, err := New(other, wrong); c != nil || err != api.ErrArg {
				t.Errorf("New(%d, %d): got %v, error %d", other, wrong, c, err)
			}
		}
	}
}

// P10.1, P10.4: each shard takes as many of its blocks as it has room for, and one more costs one of its own.
func TestRoomOfShards(t *testing.T) {
	for _, shards := range sizes {
		for _, room := range sizes {
			c := newCache(t, shards, room)
			var all []int
			for i := range shards * room {
				checkPut(t, c, i, pattern(i), true)
				all = append(all, i)
			}
			checkHas(t, c, all...)
			for i := range all {
				checkGet(t, c, i, pattern(i))
			}
			// The hands are at the first places, and all flags are set: the first block of a shard is removed.
			for shard := range shards {
				checkPut(t, c, shards*room+shard, pattern(9999), true)
				checkHas(t, c, append(slices.Clone(all[shard+1:]), ramp(shards*room, shard+1)...)...)
			}
		}
	}
}

// ramp returns so many numbers, from the first one on.
func ramp(first, many int) []int {
	var l []int
	for i := range many {
		l = append(l, first+i)
	}
	return l
}

// P10.1: block i belongs to the shard i modulo the number of shards, however large i is.
func TestShardOfBlock(t *testing.T) {
	for _, shards := range sizes {
		c := newCache(t, shards, 1)
		for i := range shards {
			c.Put(i, nil)
			c.Pin(i)
		}
		for _, i := range []int{shards, 2*shards + 1, 1000, 1 << 32, math.MaxInt32, math.MaxInt - 1, math.MaxInt} {
			checkPut(t, c, i, nil, false)
			c.Unpin(i % shards)
			checkPut(t, c, i, pattern(i), true)
			checkGetsNone(t, c, i%shards)
			checkGet(t, c, i, pattern(i))
			check(t, "Drop", c.Drop(i), true)
			c.Put(i%shards, nil)
			c.Pin(i % shards)
			checkHas(t, c, ramp(0, shards)...)
		}
	}
}

// P10.1: Get returns the bytes that were put last, of any number, none among them.
func TestGetAndPut(t *testing.T) {
	c := newCache(t, 3, 5)
	for _, i := range []int{0, 1, 2, 3, 7, 64, math.MaxInt} {
		checkGetsNone(t, c, i)
		for _, b := range [][]byte{pattern(1), pattern(2), nil, pattern(3), {}, {0}, bytes.Repeat([]byte{7}, api.Size), make([]byte, 1<<16), pattern(i)} {
			checkPut(t, c, i, b, true)
			checkGet(t, c, i, b)
			checkGet(t, c, i, b)
		}
	}
	for _, i := range []int{0, 1, 2, 3, 7, 64, math.MaxInt} {
		checkGet(t, c, i, pattern(i))
	}
}

// P10.1: no block is below 0: all results are false, and nothing is changed.
func TestWrongBlocks(t *testing.T) {
	for _, shards := range sizes {
		c := newCache(t, shards, 2)
		for i := range shards {
			c.Put(i, pattern(i))
		}
		for _, i := range wrongBlocks {
			checkPut(t, c, i, pattern(5), false)
			checkGetsNone(t, c, i)
			check(t, "Pin", c.Pin(i), false)
			check(t, "Unpin", c.Unpin(i), false)
			check(t, "Drop", c.Drop(i), false)
		}
		checkHas(t, c, ramp(0, shards)...)
		for i := range shards {
			check(t, "Unpin", c.Unpin(i), false)
			checkGet(t, c, i, pattern(i))
		}
		checkRate(t, c, shards, shards+len(wrongBlocks))
	}
}

// P10.1: blocks without entries have no pins, and are not dropped; asking for them adds no entries.
func TestBlocksWithoutEntries(t *testing.T) {
	c := newCache(t, 2, 2)
	c.Put(4, pattern(4))
	for _, i := range []int{0, 1, 2, 3, 5, 6, 1 << 32, math.MaxInt} {
		checkGetsNone(t, c, i)
		check(t, "Pin", c.Pin(i), false)
		check(t, "Unpin", c.Unpin(i), false)
		check(t, "Drop", c.Drop(i), false)
		checkHas(t, c, 4)
	}
	check(t, "Unpin", c.Unpin(4), false)
	checkGet(t, c, 4, pattern(4))
}

// P10.1: an entry has as many pins as were added and not removed; only one without pins is dropped.
func TestPins(t *testing.T) {
	for pins := range 6 {
		c := newCache(t, 2, 2)
		c.Put(2, pattern(2))
		for range pins {
			check(t, "Pin", c.Pin(2), true)
		}
		c.Put(2, pattern(3)) // does not change the pins
		for range pins {
			check(t, "Drop", c.Drop(2), false)
			checkGet(t, c, 2, pattern(3))
			check(t, "Unpin", c.Unpin(2), true)
		}
		check(t, "Unpin", c.Unpin(2), false)
		check(t, "Drop", c.Drop(2), true)
		check(t, "Drop", c.Drop(2), false)
		check(t, "Pin", c.Pin(2), false)
		checkGetsNone(t, c, 2)
		checkHas(t, c)
	}
}

// P10.1: a new entry has no pins and no bytes of the one before it, nor of one of the same block.
func TestNewEntry(t *testing.T) {
	c := newCache(t, 1, 1)
	for _, i := range []int{5, 5, 6} {
		checkPut(t, c, i, pattern(i), true)
		c.Pin(i)
		c.Unpin(i)
		check(t, "Drop", c.Drop(i), true)
		checkPut(t, c, i, nil, true)
		check(t, "Unpin", c.Unpin(i), false)
		checkGet(t, c, i, nil)
	}
	c.Put(7, pattern(7))
	check(t, "Unpin", c.Unpin(7), false)
	checkGet(t, c, 7, pattern(7))
	checkHas(t, c, 7)
}

// P10.1: the first free place is taken, and the hand does not move for it.
func TestFirstFreePlace(t *testing.T) {
	c := filled(t, 4)
	c.Drop(2)
	c.Drop(1)
	c.Put(10, nil) // place 1
	checkHas(t, c, 0, 3, 10)
	c.Put(11, nil) // place 2
	checkHas(t, c, 0, 3, 10, 11)
	for step, want := range [][]int{{3, 10, 11, 20}, {3, 11, 20, 21}, {3, 20, 21, 22}, {20, 21, 22, 23}} {
		c.Put(20+step, nil)
		checkHas(t, c, want...)
	}
}

// P10.1: the hand stays where it is when an entry is dropped, also one at its place.
func TestHandStaysAtDrop(t *testing.T) {
	c := filled(t, 3)
	c.Put(10, nil) // the place of 0; the hand is at that of 1, and 1 and 2 have no flags
	checkHas(t, c, 1, 2, 10)
	c.Drop(1)
	c.Put(11, nil) // the place of 1, which is free
	checkHas(t, c, 2, 10, 11)
	c.Put(12, nil) // the hand clears the flag of 11, and removes 2
	checkHas(t, c, 10, 11, 12)
	c.Put(13, nil) // the hand clears the flag of 10, and removes 11
	checkHas(t, c, 10, 12, 13)
}

// P10.1: the hand clears flags, removes the first entry without one, and goes on by one place.
func TestHand(t *testing.T) {
	c := filled(t, 4)
	steps := []struct {
		get, put int
		want     []int
	}{
		{-1, 10, []int{1, 2, 3, 10}},    // clears all four flags
		{-1, 11, []int{2, 3, 10, 11}},   // 1 has none
		{2, 12, []int{2, 10, 11, 12}},   // passes 2
		{-1, 13, []int{10, 11, 12, 13}}, // passes 10, 11; 2 has none any more, and its flag was cleared
		{10, 14, []int{10, 12, 13, 14}}, // passes 12, 10; 11 has none any more
	}
	for _, step := range steps {
		if step.get >= 0 {
			c.Get(step.get)
		}
		checkPut(t, c, step.put, nil, true)
		checkHas(t, c, step.want...)
	}
}

// P10.1: Get and Put set the flag of an entry; Pin, Unpin, Has, Rate, Put of another block and Drop do not.
func TestWhatSetsFlags(t *testing.T) {
	does := []struct {
		name string
		do   func(c *Cache)
		flag bool
	}{
		{"Get", func(c *Cache) { c.Get(1) }, true},
		{"Put", func(c *Cache) { c.Put(1, nil) }, true},
		{"Pin and Unpin", func(c *Cache) { c.Pin(1); c.Unpin(1); c.Unpin(1) }, false},
		{"Has", func(c *Cache) { c.Has(); c.Rate() }, false},
		{"Drop of a pinned one", func(c *Cache) { c.Pin(1); c.Drop(1); c.Unpin(1) }, false},
		{"nothing", func(*Cache) {}, false},
		{"Get of others", func(c *Cache) { c.Get(0); c.Get(5); c.Get(-1) }, false},
	}
	for _, step := range does {
		c := filled(t, 3)
		c.Put(10, nil) // clears the flags of 1 and 2, and removes 0; the hand is at 1
		step.do(c)
		c.Put(11, nil)
		if _, ok := c.Get(1); ok != step.flag {
			t.Errorf("%s: the hand passed 1: %v, want %v", step.name, ok, step.flag)
		}
	}
}

// P10.1: the flag of a new entry is set, so the hand passes it once.
func TestFlagOfNewEntry(t *testing.T) {
	c := filled(t, 2)
	c.Put(10, nil) // removes 0; the hand is at 1, which has no flag
	c.Put(11, nil) // removes 1; the hand is at 10
	c.Get(11)
	checkHas(t, c, 10, 11)
	c.Drop(11)
	c.Put(12, nil) // in the free place; 10 and 12 have flags
	c.Put(13, nil) // clears both, and removes 10; the hand is at 12
	checkHas(t, c, 12, 13)
	c.Put(14, nil)
	checkHas(t, c, 13, 14)
}

// P10.1: the hand passes an entry with pins, and leaves its flag.
func TestHandAtPins(t *testing.T) {
	c := filled(t, 3)
	c.Pin(0)
	c.Put(10, nil) // clears the flags of 1 and 2 alone, and removes 1; the hand is at 2
	checkHas(t, c, 0, 2, 10)
	c.Unpin(0)
	c.Put(11, nil) // removes 2; the hand is at 0
	checkHas(t, c, 0, 10, 11)
	c.Put(12, nil) // 0, 10 and 11 have their flags: all are cleared, and 0 is removed
	checkHas(t, c, 10, 11, 12)

	c = filled(t, 3)
	c.Put(10, nil) // clears all flags, and removes 0; the hand is at 1
	c.Pin(1)
	c.Put(11, nil) // passes 1, though it has no flag, and removes 2; the hand is at 10
	checkHas(t, c, 1, 10, 11)
	c.Unpin(1)
	c.Put(12, nil) // clears the flag of 10; 1 got none
	checkHas(t, c, 10, 11, 12)
}

// P10.1: where all entries have pins, the block is not put into the cache, and the hand is where it was.
func TestAllPinned(t *testing.T) {
	for _, room := range sizes {
		c := filled(t, room)
		for i := range room {
			c.Pin(i)
		}
		for range 3 {
			checkPut(t, c, 1000, pattern(1), false)
			checkGetsNone(t, c, 1000)
			checkHas(t, c, ramp(0, room)...)
		}
		checkPut(t, c, 0, pattern(70), true) // it has an entry
		checkGet(t, c, 0, pattern(70))
		for i := range room {
			c.Unpin(i)
		}
		for i := range room { // the hand clears all flags at first, and removes the entries one after the other
			checkPut(t, c, 1000+i, pattern(i), true)
			checkHas(t, c, append(ramp(i+1, room-1-i), ramp(1000, i+1)...)...)
		}
	}
}

// P10.1: one entry without pins is found wherever it is, also if its flag is set and the hand just behind it.
func TestOneUnpinned(t *testing.T) {
	for _, room := range sizes {
		for one := range room {
			c := filled(t, room)
			for i := range room {
				if i != one {
					c.Pin(i)
				}
			}
			next := one
			for i := range 3 {
				checkPut(t, c, 1000+i, pattern(i), true)
				checkGetsNone(t, c, next)
				checkGet(t, c, 1000+i, pattern(i))
				next = 1000 + i
			}
			if len(c.Has()) != room {
				t.Errorf("%d blocks have entries, want %d", len(c.Has()), room)
			}
		}
	}
}

// P10.1: what is done in one shard changes none of the others.
func TestShardsAreApart(t *testing.T) {
	c := newCache(t, 3, 2)
	for i := range 6 {
		c.Put(i, pattern(i))
	}
	for i := range 20 {
		c.Put(1+3*i, nil)
		c.Get(1 + 3*i)
	}
	checkHas(t, c, 0, 2, 3, 5, 55, 58)
	c.Put(6, nil) // the hand of this shard is still at the place of 0
	checkHas(t, c, 2, 3, 5, 6, 55, 58)
	c.Pin(2)
	c.Pin(5)
	checkPut(t, c, 8, nil, false)
	checkPut(t, c, 9, nil, true)
	checkHas(t, c, 2, 5, 6, 9, 55, 58)
}

// P10.2: Has returns the blocks of all shards in increasing order, whatever the order in which they were put.
func TestHas(t *testing.T) {
	r := rand.New(rand.NewSource(2))
	for _, shards := range sizes {
		c := newCache(t, shards, 64)
		var blocks []int
		for _, i := range r.Perm(64) {
			i += 1<<40*r.Intn(2) + math.MaxInt/2*r.Intn(2)
			c.Put(i, nil)
			blocks = append(blocks, i)
			c.Put(blocks[r.Intn(len(blocks))], nil)
			want := slices.Sorted(slices.Values(blocks))
			checkHas(t, c, want...)
			checkHas(t, c, want...)
		}
	}
	c := newCache(t, 64, 64)
	for _, i := range r.Perm(64 * 64) {
		c.Put(i, nil)
	}
	checkHas(t, c, ramp(0, 64*64)...)
}

// P10.2: Rate counts the calls of Get alone, and those that found an entry.
func TestRate(t *testing.T) {
	c := newCache(t, 2, 2)
	c.Put(1, pattern(1))
	c.Put(2, nil)
	c.Pin(1)
	c.Pin(3)
	c.Unpin(1)
	c.Drop(3)
	c.Has()
	checkRate(t, c, 0, 0)
	checkRate(t, c, 0, 0)
	gets, found := 0, 0
	for _, step := range []struct {
		block int
		finds bool
	}{{3, false}, {-1, false}, {1, true}, {2, true}, {2, true}, {0, false}, {math.MinInt, false}, {math.MaxInt, false}, {1, true}, {1, true}, {1, true}} {
		gets++
		if step.finds {
			found++
		}
		c.Get(step.block)
		checkRate(t, c, found, gets)
		checkRate(t, c, found, gets)
	}
	c.Drop(1)
	c.Drop(2)
	checkRate(t, c, 6, 11)
	c.Get(1)
	checkRate(t, c, 6, 12)
}

// P10.2: Rate is 1 if all calls of Get found an entry, and 0 if none did.
func TestRateEnds(t *testing.T) {
	all, none := filled(t, 3), filled(t, 3)
	for i := range 1000 {
		all.Get(i % 3)
		none.Get(3 + i)
		if all.Rate() != 1 || none.Rate() != 0 {
			t.Fatalf("after %d calls: got %v and %v", i+1, all.Rate(), none.Rate())
		}
	}
}

// checkEmpty does all calls with a cache that has no shards.
func checkEmpty(t *testing.T, c *Cache) {
	t.Helper()
	for _, i := range append([]int{0, 1, 5, 64, 1 << 32, math.MaxInt}, wrongBlocks...) {
		checkPut(t, c, i, pattern(i), false)
		check(t, "Pin", c.Pin(i), false)
		check(t, "Unpin", c.Unpin(i), false)
		check(t, "Drop", c.Drop(i), false)
		checkHas(t, c)
		checkRate(t, c, 0, 0)
	}
	for _, i := range append([]int{0, 1, 5, 64, 1 << 32, math.MaxInt}, wrongBlocks...) {
		checkGetsNone(t, c, i)
	}
}

// P10.2: for a nil cache the results are false, no bytes or blocks, and not a number, however often it was asked.
func TestNilCache(t *testing.T) {
	for range 2 {
		checkEmpty(t, nil)
	}
	checkRate(t, nil, 0, 0)
}

// R1: a cache that does not come from New panics in no call, either.
func TestCacheFromElsewhere(t *testing.T) {
	checkEmpty(t, &Cache{})
}

// P10.3: the bytes that are put are not changed, nor what stands behind them, and not kept: the caller may change them.
func TestBytesAreNotKept(t *testing.T) {
	c := newCache(t, 1, 2)
	for range 2 { // for a new entry, and for one that the block has
		all := append(pattern(1), pattern(2)...)
		before := bytes.Clone(all)
		checkPut(t, c, 7, all[:len(pattern(1))], true)
		checkGet(t, c, 7, pattern(1))
		c.Put(8, pattern(8))
		if !bytes.Equal(all, before) {
			t.Errorf("changed into %q", all)
		}
		for i := range all {
			all[i] ^= 255
		}
		checkGet(t, c, 7, pattern(1))
	}
}

// P10.3: results share nothing with the cache, nor with one another, also behind their ends.
func TestResultsAreNew(t *testing.T) {
	c := filled(t, 3)
	one, _ := c.Get(1)
	other, _ := c.Get(1)
	for i := range one {
		one[i] ^= 255
	}
	one = append(one, 1, 2, 3)
	clear(one[:cap(one)])
	if !bytes.Equal(other, pattern(1)) {
		t.Errorf("two results of Get share bytes: %q", other)
	}
	checkGet(t, c, 1, pattern(1))
	checkGet(t, c, 0, pattern(0))
	checkGet(t, c, 2, pattern(2))
	blocks := c.Has()
	checkHas(t, c, 0, 1, 2)
	clear(append(blocks, 5)[:cap(blocks)])
	clear(blocks)
	checkHas(t, c, 0, 1, 2)
	c.Put(1, pattern(50)) // does not change what was returned
	if !bytes.Equal(other, pattern(1)) {
		t.Errorf("a result of Get was changed: %q", other)
	}
}

// R3: nil bytes and empty ones are the same: the block has an entry.
func TestNoBytes(t *testing.T) {
	for _, b := range [][]byte{nil, {}} {
		c := newCache(t, 1, 1)
		checkPut(t, c, 0, b, true)
		checkHas(t, c, 0)
		checkGet(t, c, 0, nil)
	}
}

// doBoth does one call with both caches, and returns what differs.
func doBoth(c *Cache, w *wordsCache, kind, i, seed int) string {
	var got, want bool
	switch kind {
	case 0:
		b, ok := c.Get(i)
		wantB, wantOk := w.get(i)
		if string(b) != wantB {
			return "Get: " + strconv.Quote(string(b)) + ", want " + strconv.Quote(wantB)
		}
		got, want = ok, wantOk
	case 1:
		got, want = c.Pin(i), w.pin(i)
	case 2:
		got, want = c.Unpin(i), w.unpin(i)
	case 3:
		got, want = c.Drop(i), w.drop(i)
	default:
		got, want = c.Put(i, pattern(seed)), w.put(i, string(pattern(seed)))
	}
	if got != want {
		return "kind " + strconv.Itoa(kind) + " of " + strconv.Itoa(i) + ": " + strconv.FormatBool(got)
	}
	if !slices.Equal(c.Has(), w.has()) {
		return "Has: another list of blocks"
	}
	if rate := c.Rate(); w.gets == 0 && !math.IsNaN(rate) || w.gets > 0 && rate != float64(w.found)/float64(w.gets) {
		return "Rate: " + strconv.FormatFloat(rate, 'g', -1, 64)
	}
	return ""
}

// P10.1, P10.2: any calls, by chance, return what the words say.
func TestAnyCalls(t *testing.T) {
	for seed := range int64(150) {
		r := rand.New(rand.NewSource(seed))
		shards, room := 1+r.Intn(4), 1+r.Intn(6)
		if seed%10 == 0 {
			shards, room = sizes[r.Intn(len(sizes))], sizes[r.Intn(len(sizes))]
		}
		c, w := newCache(t, shards, room), newWordsCache(shards, room)
		blocks := shards*room*2 + 3
		for step := range 600 {
			i := r.Intn(blocks) - 1
			if diff := doBoth(c, w, r.Intn(8), i, r.Intn(1000)); diff != "" {
				t.Fatalf("seed %d, New(%d, %d), step %d, block %d: %s", seed, shards, room, step, i, diff)
			}
		}
	}
}

// P10.1, P10.2: all lists of a few calls with three blocks and room for two return what the words say, and leave what they say.
func TestAllShortLists(t *testing.T) {
	const kinds, blocks, calls = 5, 3, 4
	lists := 1
	for range calls {
		lists *= kinds * blocks
	}
	for list := range lists {
		c, w := newCache(t, 1, 2), newWordsCache(1, 2)
		var all strings.Builder
		diff := doBoth(c, w, 4, 0, 100) + doBoth(c, w, 4, 1, 101)
		for rest, n := list, 0; n < calls; rest, n = rest/(kinds*blocks), n+1 {
			kind, i := rest%kinds, rest/kinds%blocks
			all.WriteString(" " + strconv.Itoa(kind) + ":" + strconv.Itoa(i))
			diff += doBoth(c, w, kind, i, n)
		}
		for i := range 4 { // this shows where the hand is, and which flags are set
			diff += doBoth(c, w, 4, 10+i, i)
		}
		if diff != "" {
			t.Fatalf("calls%s: %s", all.String(), diff)
		}
	}
}

// P10.4: a block that has an entry has the bytes that were put last; entries with pins stay; no shard has too many entries.
func TestWhatFollows(t *testing.T) {
	for seed := range int64(60) {
		r := rand.New(rand.NewSource(1000 + seed))
		shards, room := 1+r.Intn(5), 1+r.Intn(5)
		c := newCache(t, shards, room)
		last, pins := map[int][]byte{}, map[int]int{}
		for range 500 {
			switch i := r.Intn(shards * room * 3); r.Intn(6) {
			case 0:
				if c.Pin(i) {
					pins[i]++
				}
			case 1:
				if c.Unpin(i) {
					pins[i]--
				}
			case 2:
				c.Drop(i)
			default:
				b := pattern(r.Intn(1000))
				if c.Put(i, b) {
					last[i] = b
				}
			}
			checkWhatFollows(t, c, shards, room, last, pins)
			if t.Failed() {
				t.Fatalf("seed %d, New(%d, %d)", seed, shards, room)
			}
		}
	}
}

func checkWhatFollows(t *testing.T, c *Cache, shards, room int, last map[int][]byte, pins map[int]int) {
	t.Helper()
	has := c.Has()
	many := make([]int, shards)
	for _, i := range has {
		many[i%shards]++
	}
	if slices.Max(many) > room {
		t.Errorf("a shard has more than %d entries: %v", room, has)
	}
	for i, n := range pins {
		if n > 0 && !slices.Contains(has, i) {
			t.Errorf("block %d has %d pins, and no entry", i, n)
		}
	}
	if len(has) > 0 {
		i := has[len(last)%len(has)]
		checkGet(t, c, i, last[i])
	}
}

// R4: the same calls have the same results, also from many goroutines, each with a cache of its own.
func TestSameFromManyGoroutines(t *testing.T) {
	var wait sync.WaitGroup
	for n := range 16 {
		wait.Go(func() {
			r := rand.New(rand.NewSource(int64(n % 4)))
			c, _ := New(3, 4)
			w := newWordsCache(3, 4)
			for range 500 {
				if diff := doBoth(c, w, r.Intn(7), r.Intn(30), r.Intn(1000)); diff != "" {
					t.Error(diff)
					return
				}
			}
		})
	}
	wait.Wait()
}
