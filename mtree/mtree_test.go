package mtree

import (
	"bytes"
	libraryTags "crypto/hmac"
	"crypto/sha256"
	"encoding/binary"
	"encoding/hex"
	"math"
	"math/rand"
	"slices"
	"sync"
	"testing"

	"padlock/api"
	"padlock/hmac"
	"padlock/merkle"
)

// sizes are numbers of places: the least and the greatest, and those around the powers of 4, and others.
var sizes = []int{1, 2, 3, 4, 5, 6, 8, 9, 15, 16, 17, 20, 21, 63, 64, 65, 100, 128, 255, 256, 257, 300, 511, 512}

// wrongPlaces are no place of any tree.
var wrongPlaces = []int{-1, -2, -4, -5, -512, 512, 513, 1 << 16, 1 << 32, math.MinInt32, math.MaxInt32, math.MinInt, math.MinInt + 1, math.MaxInt}

// pattern returns a tag without much order, and another one for another seed.
func pattern(seed int) hmac.Tag {
	return hmac.Tag(sha256.Sum256(binary.BigEndian.AppendUint64([]byte("pattern"), uint64(seed))))
}

// keys are none, short and long ones, those around the size that a tag's key is filled up to among them.
func keys() [][]byte {
	l := [][]byte{nil, {1}, []byte("key")}
	for seed, n := range []int{32, 63, 64, 65, 200} {
		var key []byte
		for i := range n {
			key = append(key, byte(i*i*7+seed*31+1))
		}
		l = append(l, key)
	}
	return l
}

// rootByWords fills the list up with zeros and replaces fours by their nodes, by the library of the language.
func rootByWords(key []byte, l []hmac.Tag) hmac.Tag {
	room := 4
	for room < len(l) {
		room *= 4
	}
	level := append(slices.Clone(l), make([]hmac.Tag, room-len(l))...)
	for len(level) > 1 {
		var next []hmac.Tag
		for four := range slices.Chunk(level, 4) {
			h := libraryTags.New(sha256.New, key)
			h.Write([]byte{0, 0, 0, 4, 'n', 'o', 'd', 'e'})
			for _, tag := range four {
				h.Write([]byte{0, 0, 0, 32})
				h.Write(tag[:])
			}
			next = append(next, hmac.Tag(h.Sum(nil)))
		}
		level = next
	}
	return level[0]
}

// heightByWords is the number of levels of nodes above so many places.
func heightByWords(places int) int {
	height := 1
	for room := 4; room < places; room *= 4 {
		height++
	}
	return height
}

// nodesByWords is how many nodes are above so many places: on each level a fourth of those below, rounded up.
func nodesByWords(places int) int {
	sum, level := 0, float64(places)
	for range heightByWords(places) {
		level = math.Ceil(level / 4)
		sum += int(level)
	}
	return sum
}

// wordy is a tree as the words of the chapter tell it: each node knows which places are below it.
type wordy struct {
	key   []byte
	tags  []hmac.Tag
	nodes [][]int // the places below each node
	set   map[int]bool
	work  int
}

func newWordy(key []byte, places int) *wordy {
	w := &wordy{key: key, tags: make([]hmac.Tag, places), set: map[int]bool{}}
	width := 1
	for range heightByWords(places) {
		width *= 4
		var all []int
		for i := range places {
			all = append(all, i)
		}
		for below := range slices.Chunk(all, width) {
			w.nodes = append(w.nodes, below)
		}
	}
	return w
}

func (w *wordy) change(i int, tag hmac.Tag) {
	w.tags[i] = tag
	w.set[i] = true
}

func (w *wordy) stale() int {
	many := 0
	for _, below := range w.nodes {
		if slices.ContainsFunc(below, func(i int) bool { return w.set[i] }) {
			many++
		}
	}
	return many
}

func (w *wordy) root() hmac.Tag {
	w.work += w.stale()
	clear(w.set)
	return rootByWords(w.key, w.tags)
}

func newTree(t *testing.T, key []byte, places int) *Tree {
	t.Helper()
	tree, err := New(key, places)
	if tree == nil || err != api.OK {
		t.Fatalf("New of %d places: got %v, error %d", places, tree, err)
	}
	return tree
}

func set(t *testing.T, tree *Tree, i int, tag hmac.Tag) {
	t.Helper()
	if err := tree.Set(i, tag); err != api.OK {
		t.Fatalf("Set(%d) of %d places: error %d", i, tree.Places(), err)
	}
}

// filled returns a tree whose place i has pattern(i), and these tags.
func filled(t *testing.T, key []byte, places int) (*Tree, []hmac.Tag) {
	t.Helper()
	tree := newTree(t, key, places)
	var l []hmac.Tag
	for i := range places {
		l = append(l, pattern(i))
		set(t, tree, i, l[i])
	}
	return tree, l
}

func checkTags(t *testing.T, tree *Tree, want []hmac.Tag) {
	t.Helper()
	if tree.Places() != len(want) {
		t.Errorf("Places: got %d, want %d", tree.Places(), len(want))
	}
	for i, tag := range want {
		if got, err := tree.Get(i); got != tag || err != api.OK {
			t.Errorf("Get(%d) of %d places: got %x, error %d, want %x", i, len(want), got, err, tag)
		}
	}
}

func checkStale(t *testing.T, tree *Tree, want int) {
	t.Helper()
	if got := tree.Stale(); got != want {
		t.Errorf("Stale of %d places: got %d, want %d", tree.Places(), got, want)
	}
}

func checkWork(t *testing.T, tree *Tree, want int) {
	t.Helper()
	if got := tree.Work(); got != want {
		t.Errorf("Work of %d places: got %d, want %d", tree.Places(), got, want)
	}
}

func checkRoot(t *testing.T, tree *Tree, key []byte, l []hmac.Tag) {
	t.Helper()
	if got := tree.Root(); got != rootByWords(key, l) || got != merkle.Root(key, l) {
		t.Errorf("Root of %d places: got %x", len(l), got)
	}
}

// The example of the chapter.
func TestExample(t *testing.T) {
	tree := newTree(t, []byte("key"), 5)
	set(t, tree, 0, pattern(1))
	set(t, tree, 1, pattern(2))
	checkStale(t, tree, 2)
	set(t, tree, 4, pattern(3))
	checkStale(t, tree, 3)
}

// P9.1: a tree has from 1 to 512 places, whose tags are zeros at first, and no node of it is stale.
func TestNew(t *testing.T) {
	for places := 1; places <= 512; places++ {
		tree := newTree(t, []byte("key"), places)
		checkTags(t, tree, make([]hmac.Tag, places))
		checkStale(t, tree, 0)
		checkWork(t, tree, 0)
	}
}

// P9.1: New returns ErrArg, and no tree, for any other number of places.
func TestNewOfWrongPlaces(t *testing.T) {
	for _, places := range []int{0, -1, -2, -4, -512, 513, 514, 1024, 1 << 16, 1 << 32, 1<<32 + 5, math.MinInt32, math.MaxInt32, math.MinInt, math.MaxInt} {
		for _, key := range keys() {
			if tree, err := New(key, places); tree != nil || err != api.ErrArg {
				t.Errorf("New of %d places: got %v, error %d", places, tree, err)
			}
		}
	}
}

// P9.2: the root of a new tree is that of a list of zeros, and Root computes no node for it, as none is stale.
func TestRootOfNewTree(t *testing.T) {
	for _, key := range keys() {
		for _, places := range sizes {
			tree := newTree(t, key, places)
			checkRoot(t, tree, key, make([]hmac.Tag, places))
			checkStale(t, tree, 0)
			checkWork(t, tree, 0)
		}
	}
}

// P9.1: each place has the tag that it was set to last, and no other place has it.
func TestSetAndGet(t *testing.T) {
	for _, places := range sizes {
		tree, l := filled(t, nil, places)
		checkTags(t, tree, l)
		for i := range l {
			l[i] = pattern(1000 + i)
			set(t, tree, i, l[i])
			if got, _ := tree.Get((i + 1) % places); got != l[(i+1)%places] {
				t.Errorf("Set(%d) of %d places changed the next one", i, places)
			}
		}
		tree.Root()
		checkTags(t, tree, l)
		set(t, tree, places-1, hmac.Tag{})
		l[places-1] = hmac.Tag{}
		checkTags(t, tree, l)
	}
}

// P9.1: where there is no place, Get and Set return ErrArg, and nothing is changed.
func TestWrongPlaces(t *testing.T) {
	for _, places := range sizes {
		tree, l := filled(t, []byte("key"), places)
		root := tree.Root()
		work := tree.Work()
		for _, i := range append([]int{places, places + 1, places + 3, -places, 4 * places}, wrongPlaces...) {
			if i >= 0 && i < places {
				continue
			}
			if tag, err := tree.Get(i); tag != (hmac.Tag{}) || err != api.ErrArg {
				t.Errorf("Get(%d) of %d places: got %x, error %d", i, places, tag, err)
			}
			if err := tree.Set(i, pattern(5000)); err != api.ErrArg {
				t.Errorf("Set(%d) of %d places: error %d", i, places, err)
			}
		}
		checkStale(t, tree, 0)
		checkTags(t, tree, l)
		if tree.Root() != root {
			t.Errorf("%d places: the root was changed", places)
		}
		checkWork(t, tree, work)
	}
}

// P9.1: one place that was set makes the nodes above it stale, one for each level, and no other ones.
func TestSetMakesNodesStale(t *testing.T) {
	for _, places := range sizes {
		height := heightByWords(places)
		tree := newTree(t, nil, places)
		for i := range places {
			set(t, tree, i, pattern(i))
			checkStale(t, tree, height)
			tree.Root()
			checkStale(t, tree, 0)
			checkWork(t, tree, height*(i+1))
		}
	}
}

// P9.1: also a tag that the place had before makes the nodes above it stale.
func TestSetOfSameTag(t *testing.T) {
	key := []byte("key")
	for _, places := range sizes {
		height := heightByWords(places)
		tree := newTree(t, key, places)
		set(t, tree, places-1, hmac.Tag{})
		checkStale(t, tree, height)
		checkRoot(t, tree, key, make([]hmac.Tag, places))
		checkWork(t, tree, height)

		l := make([]hmac.Tag, places)
		for range 3 {
			l[0] = pattern(1)
			set(t, tree, 0, l[0])
			checkStale(t, tree, height)
			checkRoot(t, tree, key, l)
		}
		checkWork(t, tree, 4*height)
	}
}

// P9.2: a node below which several tags were set, or one tag several times, is one stale node, and is computed once.
func TestNodeIsComputedOnce(t *testing.T) {
	tree := newTree(t, nil, 64)
	for range 5 {
		for i := range 4 {
			set(t, tree, 20+i, pattern(i))
		}
	}
	checkStale(t, tree, 3)
	tree.Root()
	checkWork(t, tree, 3)
	for _, step := range []struct{ place, stale int }{{0, 3}, {3, 3}, {4, 4}, {15, 5}, {16, 7}, {63, 9}, {0, 9}, {62, 9}} {
		set(t, tree, step.place, pattern(step.place))
		checkStale(t, tree, step.stale)
	}
	tree.Root()
	checkWork(t, tree, 3+9)
}

// P9.2: when all tags were set, all nodes are stale; those above appended zeros only are none of the tree's.
func TestAllNodes(t *testing.T) {
	known := map[int]int{1: 1, 4: 1, 5: 3, 8: 3, 16: 5, 17: 8, 64: 21, 65: 17 + 5 + 2 + 1, 512: 128 + 32 + 8 + 2 + 1}
	for places := 1; places <= 512; places++ {
		nodes := nodesByWords(places)
		if want, ok := known[places]; ok && nodes != want {
			t.Errorf("%d places: %d nodes, want %d", places, nodes, want)
		}
		tree, _ := filled(t, nil, places)
		checkStale(t, tree, nodes)
		if slices.Contains(sizes, places) {
			tree.Root()
			checkStale(t, tree, 0)
			checkWork(t, tree, nodes)
		}
	}
}

// P9.2: the root is that of all tags, for each key and number of places.
func TestRoot(t *testing.T) {
	for _, key := range keys() {
		for _, places := range sizes {
			tree, l := filled(t, key, places)
			checkRoot(t, tree, key, l)
		}
	}
}

// P9.2: roots, byte for byte, which another program computed.
func TestKnownRoots(t *testing.T) {
	five, all := newTree(t, []byte("key"), 5), newTree(t, []byte("key"), 512)
	check := func(tree *Tree, want string) {
		t.Helper()
		if root := tree.Root(); hex.EncodeToString(root[:]) != want {
			t.Errorf("%d places: got %x, want %s", tree.Places(), root, want)
		}
	}
	check(five, "ca930edc5b8186153b0be37046210b7d94b7558869990d1db3cf9a2ef60ddfa6")
	for i := range 5 {
		set(t, five, i, hmac.Tag(slices.Repeat([]byte{byte(i + 1)}, 32)))
	}
	check(five, "7f66fa5a320379d144d8c44efc55791679ea506ae454233ebe4a8a042b33018c")
	check(all, "8a46696a0c534c2a34812bc02a8b8044333c6620e06c01dbdd4ebf29939b5e56")
	for i, place := range []int{0, 300, 511} {
		set(t, all, place, hmac.Tag(slices.Repeat([]byte{byte(i + 1)}, 32)))
	}
	check(all, "b4b20ea2e7082f25b95114610c677f207f56c6364a7e78783988bdd0aa64237e")
}

// P9.2: Root asked for again computes nothing, and returns the same; so do the other calls.
func TestRootAgain(t *testing.T) {
	for _, places := range sizes {
		tree, l := filled(t, []byte("key"), places)
		root := tree.Root()
		work := tree.Work()
		for i := range 5 {
			tree.Get(i)
			tree.Get(-i)
			tree.Set(-1, pattern(i))
			checkStale(t, tree, 0)
			if tree.Root() != root {
				t.Errorf("%d places: another root", places)
			}
			checkWork(t, tree, work)
		}
		checkTags(t, tree, l)
	}
}

// P9.2: Get, Stale and Work compute nothing, and leave what is stale.
func TestOthersComputeNothing(t *testing.T) {
	tree, l := filled(t, []byte("key"), 21)
	for range 3 {
		checkTags(t, tree, l)
		checkStale(t, tree, nodesByWords(21))
		checkWork(t, tree, 0)
	}
	checkRoot(t, tree, []byte("key"), l)
}

// P9.1, P9.2: any calls, by chance, return what the words say.
func TestAnyCalls(t *testing.T) {
	r := rand.New(rand.NewSource(9))
	for round := range 200 {
		places := sizes[round%len(sizes)]
		if round >= 2*len(sizes) {
			places = 1 + r.Intn(512)
		}
		key := keys()[r.Intn(len(keys()))]
		tree, words := newTree(t, key, places), newWordy(key, places)
		for range 60 {
			switch i := r.Intn(places); r.Intn(8) {
			case 0:
				if tree.Root() != words.root() {
					t.Fatalf("round %d, %d places: another root", round, places)
				}
			case 1:
				same, _ := tree.Get(i)
				set(t, tree, i, same)
				words.change(i, words.tags[i])
			default:
				tag := pattern(r.Int())
				set(t, tree, i, tag)
				words.change(i, tag)
			}
			if tree.Stale() != words.stale() || tree.Work() != words.work {
				t.Fatalf("round %d, %d places: got %d stale and %d computed, want %d and %d", round, places, tree.Stale(), tree.Work(), words.stale(), words.work)
			}
		}
		checkTags(t, tree, words.tags)
	}
}

// P9.1, P9.2: a nil tree has no places, and all its results are zero.
func TestNilTree(t *testing.T) {
	var tree *Tree
	for range 2 {
		if tree.Places() != 0 || tree.Stale() != 0 || tree.Work() != 0 || tree.Root() != (hmac.Tag{}) {
			t.Errorf("got %d places, %d stale, %d computed, root %x", tree.Places(), tree.Stale(), tree.Work(), tree.Root())
		}
		for _, i := range append([]int{0, 1, 5, 511}, wrongPlaces...) {
			if tag, err := tree.Get(i); tag != (hmac.Tag{}) || err != api.ErrArg {
				t.Errorf("Get(%d): got %x, error %d", i, tag, err)
			}
			if err := tree.Set(i, pattern(1)); err != api.ErrArg {
				t.Errorf("Set(%d): error %d", i, err)
			}
		}
	}
}

// R1: a tree that does not come from New panics in no call, either.
func TestTreeFromElsewhere(t *testing.T) {
	var tree Tree
	if tree.Places() != 0 || tree.Stale() != 0 || tree.Work() != 0 || tree.Root() != (hmac.Tag{}) {
		t.Error("results that are not zero")
	}
	if _, err := tree.Get(0); err != api.ErrArg || tree.Set(0, pattern(1)) != api.ErrArg {
		t.Error("a place 0")
	}
}

// P9.3: the key is not changed, nor what stands behind it, and it is not kept: the caller may change it.
func TestKeyIsNotKept(t *testing.T) {
	for _, key := range keys() {
		behind := pattern(7000)
		room := append(bytes.Clone(key), behind[:]...)
		before := bytes.Clone(room)
		tree, l := filled(t, room[:len(key)], 21)
		tree.Root()
		set(t, tree, 20, pattern(1))
		l[20] = pattern(1)
		if !bytes.Equal(room, before) {
			t.Errorf("key of %d bytes: changed", len(key))
		}
		for i := range room {
			room[i] ^= 255
		}
		checkRoot(t, tree, key, l)
		set(t, tree, 0, pattern(2))
		l[0] = pattern(2)
		checkRoot(t, tree, key, l)
	}
}

// P9.3: neither a tag that was set nor one that was returned is shared with the tree, nor do trees share anything.
func TestNothingIsShared(t *testing.T) {
	key := []byte("key")
	one, l := filled(t, key, 21)
	other, _ := filled(t, key, 21)
	tag := pattern(8000)
	l[3] = tag
	set(t, one, 3, tag)
	clear(tag[:])
	got, _ := one.Get(3)
	clear(got[:])
	root := one.Root()
	clear(root[:])
	checkTags(t, one, l)
	checkRoot(t, one, key, l)
	l[3] = pattern(3)
	checkStale(t, other, nodesByWords(21))
	checkWork(t, other, 0)
	checkTags(t, other, l)
	checkRoot(t, other, key, l)
}

// R3: a nil key and an empty one are the same.
func TestNoKey(t *testing.T) {
	one, _ := filled(t, nil, 17)
	other, _ := filled(t, []byte{}, 17)
	if one.Root() != other.Root() {
		t.Error("a nil key and an empty one have different roots")
	}
}

// P9.4: the root does not depend on the order in which tags were set, on those that places had between, nor on when it was asked for.
func TestRootDependsOnTagsAlone(t *testing.T) {
	key := []byte("key")
	r := rand.New(rand.NewSource(4))
	for _, places := range sizes {
		first, l := filled(t, key, places)
		root := first.Root()
		for round := range 4 {
			tree := newTree(t, key, places)
			for _, i := range r.Perm(places) {
				if round > 1 {
					set(t, tree, r.Intn(places), pattern(r.Int()))
				}
				set(t, tree, i, l[i])
				if round > 0 && r.Intn(10) == 0 {
					tree.Root()
				}
			}
			for i, tag := range l {
				if got, _ := tree.Get(i); got != tag {
					set(t, tree, i, tag)
				}
			}
			if tree.Root() != root {
				t.Errorf("%d places, round %d: another root", places, round)
			}
		}
	}
}

// P9.4: Root computes no more nodes than there are, and no more than the height times the number of places that were set.
func TestWorkIsBounded(t *testing.T) {
	r := rand.New(rand.NewSource(5))
	for _, places := range sizes {
		tree := newTree(t, nil, places)
		for range 20 {
			places, many := tree.Places(), 1+r.Intn(2*tree.Places())
			for range many {
				set(t, tree, r.Intn(places), pattern(r.Int()))
			}
			before := tree.Work()
			tree.Root()
			if did := tree.Work() - before; did < 1 || did > nodesByWords(places) || did > heightByWords(places)*many {
				t.Errorf("%d places, %d set: %d nodes computed", places, many, did)
			}
		}
	}
}

// P9.2: any bit of any tag changes the root, and so does the key.
func TestRootDependsOnAll(t *testing.T) {
	tree, l := filled(t, []byte("key"), 17)
	other, _ := filled(t, []byte("other"), 17)
	seen := map[hmac.Tag]bool{tree.Root(): true, other.Root(): true}
	for i, tag := range l {
		for bit := range 256 {
			changed := tag
			changed[bit/8] ^= 1 << (bit % 8)
			set(t, tree, i, changed)
			seen[tree.Root()] = true
		}
		set(t, tree, i, tag)
	}
	if len(seen) != 2+17*256 {
		t.Errorf("%d different roots, want %d", len(seen), 2+17*256)
	}
	checkRoot(t, tree, []byte("key"), l)
}

// R4: the same calls have the same results, also from many goroutines, each with a tree of its own.
func TestSameFromManyGoroutines(t *testing.T) {
	want := rootByWords([]byte("key"), []hmac.Tag{pattern(0), pattern(1), pattern(2), pattern(3), pattern(4)})
	var wait sync.WaitGroup
	for range 8 {
		wait.Go(func() {
			for range 20 {
				tree, _ := New([]byte("key"), 5)
				for i := range 5 {
					tree.Set(i, pattern(i))
				}
				if tree.Stale() != 3 || tree.Root() != want || tree.Work() != 3 {
					t.Error("another result")
				}
			}
		})
	}
	wait.Wait()
}
