package merkle

import (
	libraryTags "crypto/hmac"
	"crypto/sha256"
	"encoding/binary"
	"encoding/hex"
	"math"
	"math/rand"
	"slices"
	"sync"
	"testing"

	"padlock/api"
	"padlock/hmac"
)

// sizes are lists' lengths: none, a few, and those around the powers of 4.
var sizes = []int{0, 1, 2, 3, 4, 5, 6, 8, 9, 15, 16, 17, 20, 21, 63, 64, 65, 100, 255, 256, 257}

// wrongPlaces are no place in any list of these tests.
var wrongPlaces = []int{-1, -2, -4, -5, math.MinInt32, math.MinInt + 1, math.MinInt, 1000, math.MaxInt32, math.MaxInt - 3, math.MaxInt}

// pattern returns a tag without much order, and another one for another seed.
func pattern(seed int) hmac.Tag {
	return hmac.Tag(sha256.Sum256(binary.BigEndian.AppendUint64([]byte("pattern"), uint64(seed))))
}

// tags returns a list of many different tags.
func tags(many, seed int) []hmac.Tag {
	var l []hmac.Tag
	for i := range many {
		l = append(l, pattern(seed*1000+i))
	}
	return l
}

// keys are none, short and long ones, those around the size that a tag's key is filled up to among them.
func keys() [][]byte {
	l := [][]byte{nil, {1}, []byte("key")}
	for seed, n := range []int{32, 63, 64, 65, 200} {
		var key []byte
		for i := range n {
			key = append(key, byte(i*i*7+seed*31+1))
		}
		l = append(l, key)
	}
	return l
}

// nodeByWords is the node as the words of the chapters 2 and 8 say it, by the library of the language.
func nodeByWords(key []byte, four []hmac.Tag) hmac.Tag {
	h := libraryTags.New(sha256.New, key)
	h.Write([]byte{0, 0, 0, 4, 'n', 'o', 'd', 'e'})
	for _, tag := range four {
		h.Write([]byte{0, 0, 0, 32})
		h.Write(tag[:])
	}
	return hmac.Tag(h.Sum(nil))
}

// heightByWords tries 1, 2 and so on; it is for small lists.
func heightByWords(many int) int {
	height, room := 1, 4
	for room < many {
		height, room = height+1, room*4
	}
	return height
}

// treeByWords returns all levels of the tree, from the filled up list to the list of the root alone.
func treeByWords(key []byte, l []hmac.Tag) [][]hmac.Tag {
	level := slices.Clone(l)
	height := heightByWords(len(l))
	for len(level) < int(math.Pow(4, float64(height))) {
		level = append(level, hmac.Tag{})
	}
	tree := [][]hmac.Tag{level}
	for range height {
		var next []hmac.Tag
		for four := range slices.Chunk(level, 4) {
			next = append(next, nodeByWords(key, four))
		}
		level = next
		tree = append(tree, level)
	}
	return tree
}

func rootByWords(key []byte, l []hmac.Tag) hmac.Tag {
	tree := treeByWords(key, l)
	return tree[len(tree)-1][0]
}

// wayByWords takes from each level below the root the four tags that contain the one above the index.
func wayByWords(key []byte, l []hmac.Tag, place int) [][4]hmac.Tag {
	tree := treeByWords(key, l)
	var way [][4]hmac.Tag
	width := 1
	for _, level := range tree[:len(tree)-1] {
		first := place / width / 4 * 4
		way = append(way, [4]hmac.Tag(level[first:first+4]))
		width *= 4
	}
	return way
}

// checkByWords goes from the root down: what Check asks for level by level, the other way around.
func checkByWords(key []byte, way [][4]hmac.Tag, place int, leaf, root hmac.Tag) bool {
	if place < 0 || len(way) == 0 {
		return false
	}
	digits := place
	good := true
	current := []hmac.Tag{leaf}
	for _, four := range way {
		good = good && four[digits%4] == current[len(current)-1]
		current = append(current, nodeByWords(key, four[:]))
		digits = digits / 4
	}
	return good && digits == 0 && current[len(current)-1] == root
}

func mustWay(t *testing.T, key []byte, l []hmac.Tag, place int) [][4]hmac.Tag {
	t.Helper()
	way, err := Way(key, l, place)
	if err != api.OK {
		t.Fatalf("Way of %d in %d tags: error %d", place, len(l), err)
	}
	return way
}

// P8.1, example 1: no tags have the node of four tags of zeros as their root; five tags have the height 2.
func TestExample(t *testing.T) {
	key := []byte("k")
	if Root(key, nil) != Node(key, [4]hmac.Tag{}) || Root(key, []hmac.Tag{}) != Root(key, nil) {
		t.Error("the root of no tags is not the node of four tags of zeros")
	}
	if Height(5) != 2 {
		t.Errorf("Height(5) = %d", Height(5))
	}
}

// P8.1: the height is the least number, at least 1, for which 4 to the power of it is not less.
func TestHeight(t *testing.T) {
	for many := range 5000 {
		if got, want := Height(many), heightByWords(many); got != want {
			t.Fatalf("Height(%d) = %d, want %d", many, got, want)
		}
	}
	for height, room := 1, 4; height <= 31; height, room = height+1, room*4 {
		if Height(room) != height || Height(room+1) != height+1 || Height(room-1) != height {
			t.Errorf("around 4 to the power of %d: %d, %d, %d", height, Height(room-1), Height(room), Height(room+1))
		}
	}
	if Height(math.MaxInt) != 32 {
		t.Errorf("Height(MaxInt) = %d", Height(math.MaxInt))
	}
}

// P8.1: the height is 1 if many is below 1.
func TestHeightOfNothing(t *testing.T) {
	for _, many := range []int{0, -1, -4, -5, -1000, math.MinInt32, math.MinInt + 1, math.MinInt} {
		if Height(many) != 1 {
			t.Errorf("Height(%d) = %d", many, Height(many))
		}
	}
}

// P8.1: a node is the tag, with the key, of the list of node and the four tags in order.
func TestNode(t *testing.T) {
	for _, key := range keys() {
		for seed := range 5 {
			l := tags(4, seed)
			kids := [4]hmac.Tag(l)
			got := Node(key, kids)
			if got != nodeByWords(key, l) {
				t.Errorf("key of %d bytes, seed %d: %x", len(key), seed, got)
			}
			if got != hmac.Join(key, []byte("node"), l[0][:], l[1][:], l[2][:], l[3][:]) {
				t.Errorf("key of %d bytes, seed %d: not hmac.Join", len(key), seed)
			}
		}
		zeros := make([]hmac.Tag, 4)
		if Node(key, [4]hmac.Tag{}) != nodeByWords(key, zeros) {
			t.Errorf("key of %d bytes: zeros", len(key))
		}
	}
}

// P8.1: the node depends on the key, on each byte of each tag, and on their order.
func TestNodeDependsOnAll(t *testing.T) {
	key := []byte("key")
	kids := [4]hmac.Tag(tags(4, 1))
	seen := map[hmac.Tag]bool{Node(key, kids): true, Node([]byte("other"), kids): true}
	for i := range kids {
		for j := range kids[i] {
			other := kids
			other[i][j] ^= 1
			seen[Node(key, other)] = true
		}
	}
	for i := range 4 {
		for j := range i {
			other := kids
			other[i], other[j] = other[j], other[i]
			seen[Node(key, other)] = true
		}
	}
	if len(seen) != 2+4*32+6 {
		t.Errorf("%d different nodes, want %d", len(seen), 2+4*32+6)
	}
}

// P8.1: the root is the one tag that is left when the list, filled up with zeros, is replaced by its nodes height times.
func TestRoot(t *testing.T) {
	for _, key := range keys() {
		for _, many := range sizes {
			l := tags(many, 2)
			if got := Root(key, l); got != rootByWords(key, l) {
				t.Errorf("key of %d bytes, %d tags: %x", len(key), many, got)
			}
		}
	}
}

// P8.1: roots, byte for byte, which another program computed.
func TestKnownRoots(t *testing.T) {
	key := []byte("key")
	var l []hmac.Tag
	for i := range 5 {
		l = append(l, hmac.Tag(slices.Repeat([]byte{byte(i + 1)}, 32)))
	}
	none, five := Root(key, nil), Root(key, l)
	if got := hex.EncodeToString(none[:]); got != "37e1e087ecdecf65c3eef30e70afc47ff2e4a74c41392d99ec6a5950bc14fb5c" {
		t.Errorf("no tags: %s", got)
	}
	if got := hex.EncodeToString(five[:]); got != "7f66fa5a320379d144d8c44efc55791679ea506ae454233ebe4a8a042b33018c" {
		t.Errorf("five tags: %s", got)
	}
}

// P8.1: the root of one to four tags is one node; that of five to sixteen the node of four nodes.
func TestRootOfOneAndTwoLevels(t *testing.T) {
	key := []byte("key")
	l := tags(16, 3)
	if Root(key, l[:1]) != Node(key, [4]hmac.Tag{l[0]}) || Root(key, l[:4]) != Node(key, [4]hmac.Tag(l[:4])) {
		t.Error("one level")
	}
	none := Node(key, [4]hmac.Tag{})
	first := Node(key, [4]hmac.Tag(l[:4]))
	if Root(key, l[:5]) != Node(key, [4]hmac.Tag{first, Node(key, [4]hmac.Tag{l[4]}), none, none}) {
		t.Error("five tags: what is filled up is zeros on the lowest level, and their nodes above it")
	}
	if Root(key, l[:5]) == Node(key, [4]hmac.Tag{first, Node(key, [4]hmac.Tag{l[4]})}) {
		t.Error("five tags: zeros stand on a level above the lowest one")
	}
	all := [4]hmac.Tag{first, Node(key, [4]hmac.Tag(l[4:8])), Node(key, [4]hmac.Tag(l[8:12])), Node(key, [4]hmac.Tag(l[12:]))}
	if Root(key, l) != Node(key, all) {
		t.Error("sixteen tags")
	}
}

// P8.1: zeros at the end of a list make no difference as long as the height is the same; a greater height does.
func TestRootOfZeros(t *testing.T) {
	key := []byte("key")
	for _, many := range []int{0, 1, 3, 5, 15, 17, 33} {
		l := tags(many, 4)
		room := int(math.Pow(4, float64(Height(many))))
		full := append(slices.Clone(l), make([]hmac.Tag, room-many)...)
		if Root(key, l) != Root(key, full) {
			t.Errorf("%d tags, filled up to %d: another root", many, room)
		}
		if Root(key, l) == Root(key, append(full, hmac.Tag{})) {
			t.Errorf("%d tags, filled up to %d: the same root", many, room+1)
		}
	}
}

// P8.1: the root depends on the key, on each tag, and on their order.
func TestRootDependsOnAll(t *testing.T) {
	key := []byte("key")
	for _, many := range []int{1, 4, 5, 16, 17, 65} {
		l := tags(many, 5)
		seen := map[hmac.Tag]bool{Root(key, l): true, Root([]byte("other"), l): true, Root(nil, l): true}
		for i := range l {
			other := slices.Clone(l)
			other[i][i%32] ^= 128
			seen[Root(key, other)] = true
		}
		for i := range many - 1 {
			other := slices.Clone(l)
			other[i], other[i+1] = other[i+1], other[i]
			seen[Root(key, other)] = true
		}
		if len(seen) != 3+many+many-1 {
			t.Errorf("%d tags: %d different roots, want %d", many, len(seen), 2+2*many)
		}
	}
}

// P8.1: the way has the four tags of each level that contain the one above the index, from the tags up.
func TestWay(t *testing.T) {
	for _, key := range keys()[1:4] {
		for _, many := range sizes {
			l := tags(many, 6)
			for place := range l {
				if many > 65 && place%7 != 0 && place != many-1 {
					continue
				}
				way := mustWay(t, key, l, place)
				if len(way) != Height(many) {
					t.Errorf("%d tags, place %d: %d levels, want %d", many, place, len(way), Height(many))
				}
				if !slices.Equal(way, wayByWords(key, l, place)) {
					t.Errorf("%d tags, place %d: another way", many, place)
				}
			}
		}
	}
}

// P8.1: the way's levels, written out for a list of seven.
func TestWayOfSeven(t *testing.T) {
	key := []byte("key")
	l := tags(7, 7)
	none := Node(key, [4]hmac.Tag{})
	low := [][4]hmac.Tag{{l[0], l[1], l[2], l[3]}, {l[4], l[5], l[6], {}}}
	high := [4]hmac.Tag{Node(key, low[0]), Node(key, low[1]), none, none}
	for place := range l {
		if !slices.Equal(mustWay(t, key, l, place), [][4]hmac.Tag{low[place/4], high}) {
			t.Errorf("place %d", place)
		}
	}
}

// P8.1: Way returns ErrArg, and no way, if the list has no such index; those that are only filled up are none.
func TestWayOfNoIndex(t *testing.T) {
	key := []byte("key")
	for _, many := range sizes {
		l := tags(many, 8)
		for _, place := range append([]int{many, many + 1, many + 3, 4 * many, 512}, wrongPlaces...) {
			if place < many && place >= 0 {
				continue
			}
			if way, err := Way(key, l, place); len(way) != 0 || err != api.ErrArg {
				t.Errorf("%d tags, place %d: %d levels, error %d", many, place, len(way), err)
			}
		}
	}
}

// P8.2, P8.4: the way of each index leads from its tag to the root of its list.
func TestCheckOfWays(t *testing.T) {
	for _, key := range keys() {
		for _, many := range sizes {
			l := tags(many, 9)
			root := Root(key, l)
			for place := range l {
				if many > 65 && place%11 != 0 && place != many-1 {
					continue
				}
				if !Check(key, mustWay(t, key, l, place), place, l[place], root) {
					t.Errorf("key of %d bytes, %d tags, place %d: false", len(key), many, place)
				}
			}
		}
	}
}

// P8.2: also zeros that a list was filled up with have a way to its root, at their place.
func TestCheckOfZeros(t *testing.T) {
	key := []byte("key")
	l := tags(5, 10)
	way := wayByWords(key, append(slices.Clone(l), hmac.Tag{}), 5)
	if !Check(key, way, 5, hmac.Tag{}, Root(key, l)) {
		t.Error("place 5 of five tags")
	}
	if !Check(key, [][4]hmac.Tag{{}}, 3, hmac.Tag{}, Root(key, nil)) {
		t.Error("place 3 of no tags")
	}
}

// P8.2: a place below 0, and no level, lead nowhere.
func TestCheckOfNothing(t *testing.T) {
	key := []byte("key")
	l := tags(5, 11)
	root := Root(key, l)
	for _, place := range []int{-1, -2, -3, -4, -5, -16, math.MinInt32, math.MinInt + 1, math.MinInt} {
		for _, leaf := range append(slices.Clone(l), hmac.Tag{}) {
			for at := range l {
				if Check(key, mustWay(t, key, l, at), place, leaf, root) {
					t.Errorf("place %d: true", place)
				}
			}
		}
		if Check(key, nil, place, root, root) {
			t.Errorf("place %d, no level: true", place)
		}
	}
	for _, place := range []int{0, 1, 4, math.MaxInt} {
		for _, tag := range []hmac.Tag{{}, l[0], root} {
			if Check(key, nil, place, tag, tag) || Check(key, [][4]hmac.Tag{}, place, tag, tag) {
				t.Errorf("place %d, no level: true", place)
			}
		}
	}
}

// P8.2: at the end the place must be 0: none beside the tree, though its last digits to the base 4 are right.
func TestCheckOfPlacesBeside(t *testing.T) {
	key := []byte("key")
	for _, many := range []int{1, 4, 5, 16, 17, 64} {
		l := tags(many, 12)
		root := Root(key, l)
		room := int(math.Pow(4, float64(Height(many))))
		for place := range l {
			way := mustWay(t, key, l, place)
			for _, beside := range []int{place + room, place + 2*room, place + 4*room, place + 5*room, place + room*(math.MaxInt/room-1)} {
				if Check(key, way, beside, l[place], root) {
					t.Errorf("%d tags, place %d for %d: true", many, beside, place)
				}
			}
		}
	}
}

// P8.2: no other place, leaf, root or key has this way.
func TestCheckOfOthers(t *testing.T) {
	key := []byte("key")
	for _, many := range []int{1, 3, 4, 5, 16, 17, 33} {
		l := tags(many, 13)
		root := Root(key, l)
		for place, leaf := range l {
			way := mustWay(t, key, l, place)
			for other := range 80 {
				if Check(key, way, other, leaf, root) != (other == place) {
					t.Errorf("%d tags, way of %d, at %d", many, place, other)
				}
			}
			for _, other := range append(slices.Clone(l), hmac.Tag{}, root, pattern(-1)) {
				if Check(key, way, place, other, root) != (other == leaf) {
					t.Errorf("%d tags, way of %d: leaf %x", many, place, other)
				}
				if Check(key, way, place, leaf, other) != (other == root) {
					t.Errorf("%d tags, way of %d: root %x", many, place, other)
				}
			}
			for _, other := range [][]byte{nil, {}, []byte("kez"), []byte("key\x01")} {
				if Check(other, way, place, leaf, root) {
					t.Errorf("%d tags, way of %d: key %q", many, place, other)
				}
			}
		}
	}
}

// P8.2: a leaf or a root with one bit changed is another one.
func TestCheckOfBits(t *testing.T) {
	key := []byte("key")
	l := tags(6, 14)
	root := Root(key, l)
	way := mustWay(t, key, l, 4)
	for bit := range 256 {
		leaf, top := l[4], root
		leaf[bit/8] ^= 1 << (bit % 8)
		top[bit/8] ^= 1 << (bit % 8)
		if Check(key, way, 4, leaf, root) || Check(key, way, 4, l[4], top) {
			t.Errorf("bit %d: true", bit)
		}
	}
}

// P8.4: no other way at that index leads to the root: not one with any bit changed, levels left out, doubled or moved.
func TestCheckOfOtherWays(t *testing.T) {
	key := []byte("key")
	l := tags(21, 15)
	root := Root(key, l)
	for _, place := range []int{0, 7, 20} {
		way := mustWay(t, key, l, place)
		for level := range way {
			for kid := range 4 {
				for bit := range 256 {
					other := slices.Clone(way)
					other[level][kid][bit/8] ^= 1 << (bit % 8)
					if Check(key, other, place, l[place], root) || Check(key, other, place, other[0][place%4], root) {
						t.Errorf("place %d, level %d, tag %d, bit %d: true", place, level, kid, bit)
					}
				}
			}
			shorter := slices.Delete(slices.Clone(way), level, level+1)
			doubled := slices.Insert(slices.Clone(way), level, way[level])
			if Check(key, shorter, place, l[place], root) || Check(key, doubled, place, l[place], root) {
				t.Errorf("place %d, level %d left out or doubled: true", place, level)
			}
		}
		longer := append(slices.Clone(way), [4]hmac.Tag{root})
		backwards := slices.Clone(way)
		slices.Reverse(backwards)
		if Check(key, longer, place, l[place], root) || Check(key, backwards, place, l[place], root) {
			t.Errorf("place %d, one level more, or backwards: true", place)
		}
		if !Check(key, longer, place, l[place], Node(key, [4]hmac.Tag{root})) {
			t.Errorf("place %d, one level more leads to the root of a higher tree: false", place)
		}
	}
}

// P8.2, P8.4: a node can't stand for a leaf, though the rest of the way leads to the root: it has fewer levels, and another place.
func TestCheckOfNodes(t *testing.T) {
	key := []byte("key")
	l := tags(16, 16)
	root := Root(key, l)
	way := mustWay(t, key, l, 9)
	if Check(key, way[1:], 9, Node(key, way[0]), root) {
		t.Error("a node at the place of a leaf below it: true")
	}
	// Check doesn't know how many levels there are: at the node's own place this is a way of one level.
	if !Check(key, way[1:], 2, Node(key, way[0]), root) {
		t.Error("a node at its own place: false")
	}
}

// P8.2: random ways, places, leaves and roots are checked as the words say.
func TestCheckByWords(t *testing.T) {
	r := rand.New(rand.NewSource(8))
	yes := 0
	for step := range 4000 {
		key := []byte{byte(step % 3)}
		l := tags(r.Intn(24), step%5)
		filled := treeByWords(key, l)[0]
		place := r.Intn(len(filled))
		way := wayByWords(key, l, place)
		leaf, root := filled[place], Root(key, l)
		switch r.Intn(8) {
		case 0:
			place = r.Intn(70) - 3
		case 1:
			leaf = filled[r.Intn(len(filled))]
		case 2:
			way[r.Intn(len(way))][r.Intn(4)] = filled[r.Intn(len(filled))]
		case 3:
			way = way[:r.Intn(len(way)+1)]
		case 4:
			root = Node(key, way[r.Intn(len(way))])
		case 5:
			way = append(way, [4]hmac.Tag{root})
			root = Node(key, way[len(way)-1])
		}
		got, want := Check(key, way, place, leaf, root), checkByWords(key, way, place, leaf, root)
		if got != want {
			t.Fatalf("step %d, %d tags, place %d: %v, want %v", step, len(l), place, got, want)
		}
		if got {
			yes++
		}
	}
	if yes < 1000 || yes > 3800 {
		t.Errorf("%d of 4000 ways lead to their root: too few, or too many, to tell anything", yes)
	}
}

// P8.3: no call changes its arguments, also not behind the end of a list.
func TestArgumentsUnchanged(t *testing.T) {
	for _, many := range sizes {
		key := slices.Repeat([]byte{7}, 100)
		long := tags(many+300, 17)
		l := long[:many]
		place := max(many-1, 0)
		root := Root(key[:50], l)
		way, _ := Way(key[:50], l, place)
		if many == 0 {
			way = [][4]hmac.Tag{{}}
		}
		room := append(slices.Clone(way), [4]hmac.Tag{pattern(1)})
		kids := [4]hmac.Tag(long[:4])
		Node(key[:50], kids)
		leaf := append(slices.Clone(l), hmac.Tag{})[place]
		if !Check(key[:50], room[:len(way)], place, leaf, root) {
			t.Errorf("%d tags: false", many)
		}
		if !slices.Equal(key, slices.Repeat([]byte{7}, 100)) || !slices.Equal(long, tags(many+300, 17)) {
			t.Errorf("%d tags: the key or the list was changed", many)
		}
		if !slices.Equal(room[:len(way)], way) || room[len(way)] != [4]hmac.Tag{pattern(1)} || kids != [4]hmac.Tag(long[:4]) {
			t.Errorf("%d tags: the way or the four were changed", many)
		}
	}
}

// P8.3: a way shares no memory with the list, with the key, or with another way.
func TestResultsAreNew(t *testing.T) {
	key := []byte("key")
	for _, many := range []int{1, 4, 5, 16, 17} {
		l := tags(many, 18)
		want := wayByWords(key, l, many-1)
		way, again := mustWay(t, key, l, many-1), mustWay(t, key, l, many-1)
		for i := range again {
			again[i] = [4]hmac.Tag{}
		}
		if !slices.Equal(l, tags(many, 18)) {
			t.Errorf("%d tags: the list was changed by a change of the way", many)
		}
		for i := range l {
			l[i] = hmac.Tag{}
		}
		if !slices.Equal(way, want) {
			t.Errorf("%d tags: the way was changed", many)
		}
		// Nothing of an earlier call is kept: the changed list has a way of its own.
		if !slices.Equal(mustWay(t, key, l, many-1), wayByWords(key, l, many-1)) || Root(key, l) != rootByWords(key, l) {
			t.Errorf("%d tags: something of the list was kept", many)
		}
	}
}

// P8.1, R3: nil and empty arguments are the same.
func TestNilAndEmpty(t *testing.T) {
	l := tags(5, 19)
	if Root(nil, l) != Root([]byte{}, l) || Node(nil, [4]hmac.Tag{}) != Node([]byte{}, [4]hmac.Tag{}) {
		t.Error("keys")
	}
	if Root(nil, nil) != Root([]byte{}, []hmac.Tag{}) {
		t.Error("lists")
	}
	for _, none := range [][]hmac.Tag{nil, {}} {
		if way, err := Way(nil, none, 0); len(way) != 0 || err != api.ErrArg {
			t.Errorf("Way: %d levels, error %d", len(way), err)
		}
	}
	if !Check([]byte{}, mustWay(t, nil, l, 4), 4, l[4], Root(nil, l)) {
		t.Error("Check")
	}
}

// R4: calls at the same time answer as those one after the other.
func TestManyAtOnce(t *testing.T) {
	key := []byte("key")
	l := tags(33, 20)
	root := rootByWords(key, l)
	var wait sync.WaitGroup
	for range 8 {
		wait.Go(func() {
			for place := range l {
				way, err := Way(key, l, place)
				if err != api.OK || !Check(key, way, place, l[place], root) || Root(key, l) != root {
					t.Errorf("place %d", place)
				}
			}
		})
	}
	wait.Wait()
}

// R1: what is not valid is answered as well, also a tree much too small for the place.
func TestAnyArguments(t *testing.T) {
	for _, place := range append([]int{0, 1, 3, 4, 5}, wrongPlaces...) {
		for _, way := range [][][4]hmac.Tag{nil, {}, {{}}, {{}, {}}, make([][4]hmac.Tag, 100)} {
			want := checkByWords(nil, way, place, hmac.Tag{}, Root(nil, nil))
			if got := Check(nil, way, place, hmac.Tag{}, Root(nil, nil)); got != want {
				t.Errorf("%d levels, place %d: %v", len(way), place, got)
			}
		}
	}
}
