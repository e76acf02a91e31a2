package hmac

import (
	"bytes"
	library "crypto/hmac"
	librarySum "crypto/sha256"
	"encoding/binary"
	"encoding/hex"
	"fmt"
	"slices"
	"strings"
	"sync"
	"testing"

	"padlock/sha256"
)

// keyLengths are lengths of keys: none, few bytes, those around a digest and a full key, and many more.
var keyLengths = []int{0, 1, 4, 31, 32, 33, 62, 63, 64, 65, 66, 127, 128, 129, 1000, 5000}

// textLengths are lengths of bytes, the edges of the padding of the digest among them.
var textLengths = []int{0, 1, 28, 54, 55, 56, 63, 64, 65, 119, 120, 127, 128, 129, 300, 4096, 70000}

// pattern returns n bytes, of which neighbours and blocks differ, and others for another seed.
func pattern(n, seed int) []byte {
	b := make([]byte, n)
	for i := range b {
		b[i] = byte(i*7 + i/64*13 + seed*31 + 1)
	}
	return b
}

// libraryTag is the tag that the library of the language computes.
func libraryTag(key, b []byte) Tag {
	h := library.New(librarySum.New, key)
	h.Write(b)
	return Tag(h.Sum(nil))
}

// joinedByWords puts the parts together as the chapter's words say it.
func joinedByWords(parts [][]byte) []byte {
	var out []byte
	for _, p := range parts {
		out = binary.BigEndian.AppendUint32(out, uint32(len(p)))
		out = append(out, p...)
	}
	return out
}

// tagByWords computes the tag as the chapter's words say it.
func tagByWords(key, b []byte) Tag {
	if len(key) > 64 {
		d := sha256.Sum(key)
		key = d[:]
	}
	full := append(bytes.Clone(key), make([]byte, 64-len(key))...)
	first, second := make([]byte, 64), make([]byte, 64)
	for i, x := range full {
		first[i] = x ^ 54
		second[i] = x ^ 92
	}
	inner := sha256.Sum(append(first, b...))
	return Tag(sha256.Sum(append(second, inner[:]...)))
}

func lists() [][][]byte {
	return [][][]byte{
		nil,
		{},
		{nil},
		{{}},
		{nil, nil},
		{{}, nil, {}},
		{[]byte("a")},
		{[]byte("ab")},
		{[]byte("a"), []byte("b")},
		{nil, []byte("ab")},
		{[]byte("ab"), {}},
		{[]byte("a"), nil, []byte("b")},
		{{0, 0, 0, 0}},
		{{0}, {0}, {0}, {0}},
		{pattern(255, 1), pattern(256, 2), pattern(257, 3)},
		{pattern(65535, 1), nil, pattern(65536, 2), pattern(65537, 3)},
		{pattern(1<<24+5, 4), []byte("end")},
		slices.Repeat([][]byte{{7}}, 300),
		slices.Repeat([][]byte{nil}, 300),
	}
}

// P2.1: the example of the chapter, and other published tags.
func TestKnownTags(t *testing.T) {
	counting := make([]byte, 25)
	for i := range counting {
		counting[i] = byte(i + 1)
	}
	for _, c := range []struct{ key, text, want string }{
		{"Jefe", "what do ya want for nothing?", "5bdcc146bf60754e6a042426089575c75a003f089d2739839dec58b964ec3843"},
		{"", "", "b613679a0814d9ec772f95d778c35fc5ff1697c493715653c6c712144292c5ad"},
		{"key", "The quick brown fox jumps over the lazy dog", "f7bc83f430538424b13298e6aa6fb143ef4d59a14946175997479dbc2d1a3cd8"},
		{strings.Repeat("\x0b", 20), "Hi There", "b0344c61d8db38535ca8afceaf0bf12b881dc200c9833da726e9376c2e32cff7"},
		{strings.Repeat("\xaa", 20), strings.Repeat("\xdd", 50), "773ea91e36800e46854db8ebd09181a72959098b3ef8c122d9635514ced565fe"},
		{string(counting), strings.Repeat("\xcd", 50), "82558a389a443c0ea4cc819899f2083a85f0faa3e578f8077a2e3ff46729665b"},
		{strings.Repeat("\xaa", 131), "Test Using Larger Than Block-Size Key - Hash Key First", "60e431591ee0b67f0d8a26aacbf5b77f8e0bc6213728c5140546040f0ee37f54"},
		{strings.Repeat("\xaa", 131), "This is a test using a larger than block-size key and a larger than block-size data. The key needs to be hashed before being used by the HMAC algorithm.", "9b09ffa71b942fcb27635fbcd5b0e944bfdc63644f0713938a7f51535c3a35e2"},
	} {
		d := Sum([]byte(c.key), []byte(c.text))
		if got := hex.EncodeToString(d[:]); got != c.want {
			t.Errorf("Sum(%q, %q): got %s, want %s", c.key, c.text, got, c.want)
		}
	}
}

// P2.1: keys and bytes of all the lengths at which something changes.
func TestSumLengths(t *testing.T) {
	for _, k := range keyLengths {
		for _, n := range textLengths {
			key, b := pattern(k, 1), pattern(n, 2)
			got := Sum(key, b)
			if want := libraryTag(key, b); got != want {
				t.Errorf("key of %d bytes, %d bytes: got %x, want %x", k, n, got, want)
			}
			if want := tagByWords(key, b); got != want {
				t.Errorf("key of %d bytes, %d bytes: got %x, but the words lead to %x", k, n, got, want)
			}
		}
	}
}

// P2.1: every length of the key.
func TestEveryKeyLength(t *testing.T) {
	for k := range 200 {
		for _, b := range [][]byte{nil, []byte("abc"), pattern(100, 3)} {
			key := pattern(k, 5)
			if got, want := Sum(key, b), libraryTag(key, b); got != want {
				t.Errorf("key of %d bytes, %d bytes: got %x, want %x", k, len(b), got, want)
			}
		}
	}
}

// P2.1: keys of the bytes that the masks turn into zeros, and of extreme ones.
func TestPlainKeys(t *testing.T) {
	for _, x := range []byte{0, 1, 54, 92, 54 ^ 92, 127, 128, 255} {
		for _, k := range keyLengths {
			key := bytes.Repeat([]byte{x}, k)
			if got, want := Sum(key, key), libraryTag(key, key); got != want {
				t.Errorf("%d times %d: got %x, want %x", k, x, got, want)
			}
		}
	}
}

// P2.1: no part, one part and several, with empty ones among them.
func TestJoin(t *testing.T) {
	for _, k := range []int{0, 16, 32, 63, 64, 65, 200} {
		key := pattern(k, 9)
		for i, parts := range lists() {
			if got, want := Join(key, parts...), libraryTag(key, joinedByWords(parts)); got != want {
				t.Errorf("key of %d bytes, list %d of %d parts: got %x, want %x", k, i, len(parts), got, want)
			}
		}
	}
}

// P2.1: the bytes that Join takes the tag of, written out by hand.
func TestJoinedBytes(t *testing.T) {
	key := []byte("Jefe")
	for _, c := range []struct {
		parts [][]byte
		want  string
	}{
		{nil, ""},
		{[][]byte{nil}, "\x00\x00\x00\x00"},
		{[][]byte{[]byte("enc")}, "\x00\x00\x00\x03enc"},
		{[][]byte{[]byte("a"), {}, []byte("bc")}, "\x00\x00\x00\x01a\x00\x00\x00\x00\x00\x00\x00\x02bc"},
		{[][]byte{bytes.Repeat([]byte("x"), 258)}, "\x00\x00\x01\x02" + strings.Repeat("x", 258)},
		{[][]byte{bytes.Repeat([]byte("x"), 0x010203)}, "\x00\x01\x02\x03" + strings.Repeat("x", 0x010203)},
		{[][]byte{bytes.Repeat([]byte("x"), 0x01000002)}, "\x01\x00\x00\x02" + strings.Repeat("x", 0x01000002)},
	} {
		if got, want := Join(key, c.parts...), libraryTag(key, []byte(c.want)); got != want {
			t.Errorf("%d parts: got %x, want %x", len(c.parts), got, want)
		}
	}
}

// P2.1: Join without parts has the tag of no bytes; one part has not the tag of its bytes alone.
func TestJoinAndSum(t *testing.T) {
	key := pattern(20, 4)
	if Join(key) != Sum(key, nil) {
		t.Error("Join without parts is not the tag of no bytes")
	}
	for _, n := range []int{0, 1, 28, 64, 300} {
		if b := pattern(n, 6); Join(key, b) == Sum(key, b) {
			t.Errorf("one part of %d bytes: the tag of the part alone", n)
		}
	}
}

// R3: nil lists and empty ones are the same, as keys, as bytes, as parts and as lists of parts.
func TestNilAndEmpty(t *testing.T) {
	empties := [][]byte{nil, {}, make([]byte, 0, 64), pattern(64, 1)[:0], pattern(64, 1)[64:]}
	texts := [][]byte{nil, []byte("abc"), pattern(65, 2)}
	for i, none := range empties {
		for _, x := range texts {
			if Sum(none, x) != libraryTag(nil, x) {
				t.Errorf("empty key %d, %d bytes: %x", i, len(x), Sum(none, x))
			}
			if Sum(x, none) != libraryTag(x, nil) {
				t.Errorf("key of %d bytes, no bytes %d: %x", len(x), i, Sum(x, none))
			}
			if Join(none, x) != Join(nil, x) || Join(none) != Join(nil) {
				t.Errorf("empty key %d is not nil for Join", i)
			}
			if Join(x, none, x, none) != Join(x, nil, x, nil) {
				t.Errorf("empty part %d is not a nil one", i)
			}
		}
	}
	for _, list := range [][][]byte{nil, {}, make([][]byte, 0, 3), make([][]byte, 3)[:0]} {
		if Join([]byte("k"), list...) != Join([]byte("k")) {
			t.Error("an empty list of parts is not like none")
		}
	}
}

// P2.2: zeros behind a key, up to 64 bytes, make no difference; a 65th byte does.
func TestZerosBehindKey(t *testing.T) {
	b, parts := pattern(77, 8), [][]byte{[]byte("leaf"), nil, pattern(72, 2)}
	for _, k := range []int{0, 1, 2, 31, 32, 33, 62, 63, 64} {
		key := pattern(k, 3)
		sum, join := Sum(key, b), Join(key, parts...)
		for n := k; n <= 64; n++ {
			longer := append(bytes.Clone(key), make([]byte, n-k)...)
			if Sum(longer, b) != sum || Join(longer, parts...) != join {
				t.Errorf("key of %d bytes: another tag with zeros up to %d bytes", k, n)
			}
		}
		for _, n := range []int{65, 66, 128} {
			longer := append(bytes.Clone(key), make([]byte, n-k)...)
			if Sum(longer, b) == sum || Join(longer, parts...) == join {
				t.Errorf("key of %d bytes: the same tag with zeros up to %d bytes", k, n)
			}
		}
	}
}

// P2.2: a key of more than 64 bytes is like its digest, a shorter one is not.
func TestDigestAsKey(t *testing.T) {
	b, parts := pattern(77, 8), [][]byte{[]byte("node"), pattern(32, 2), nil}
	for _, k := range keyLengths {
		key := pattern(k, 7)
		d := sha256.Sum(key)
		want := k > 64
		if got := Sum(key, b) == Sum(d[:], b); got != want {
			t.Errorf("Sum, key of %d bytes: like its digest: %v", k, got)
		}
		if got := Join(key, parts...) == Join(d[:], parts...); got != want {
			t.Errorf("Join, key of %d bytes: like its digest: %v", k, got)
		}
		if want && Sum(key, b) == Sum(key[:64], b) {
			t.Errorf("key of %d bytes: only its first 64 bytes matter", k)
		}
	}
}

// P2.2: lists that have the same bytes when they are simply put one behind the other.
func TestListsWithSameBytes(t *testing.T) {
	whole := []byte("\x00\x00\x00\x01ab\x00\x00\x00\x00")
	seenBytes, seenTags := map[string]string{}, map[Tag]string{}
	for cuts := range 1 << (len(whole) - 1) {
		parts := cutAt(whole, cuts)
		for _, list := range withEmptyParts(parts) {
			name := fmt.Sprintf("%q", list)
			joined := string(concatenate(list))
			if old, ok := seenBytes[joined]; ok && old != name {
				t.Fatalf("the same bytes for %s and %s", old, name)
			}
			tag := Join([]byte("key"), list...)
			if old, ok := seenTags[tag]; ok && old != name {
				t.Fatalf("the same tag for %s and %s", old, name)
			}
			seenBytes[joined], seenTags[tag] = name, name
		}
	}
	if want := 4 * 1 << (len(whole) - 1); len(seenTags) != want {
		t.Errorf("%d different tags for %d lists", len(seenTags), want)
	}
}

// cutAt cuts b behind each byte whose bit is set in cuts.
func cutAt(b []byte, cuts int) [][]byte {
	var parts [][]byte
	from := 0
	for i := range b {
		if cuts>>i&1 == 1 || i == len(b)-1 {
			parts = append(parts, b[from:i+1])
			from = i + 1
		}
	}
	return parts
}

func withEmptyParts(parts [][]byte) [][][]byte {
	before := append([][]byte{{}}, parts...)
	behind := append(slices.Clone(parts), []byte{})
	both := append(slices.Clone(before), []byte{})
	return [][][]byte{parts, before, behind, both}
}

// P2.2: a list that has the bytes of another one's numbers in its parts.
func TestPartsLikeNumbers(t *testing.T) {
	key := []byte("key")
	inside := Join(key, []byte("\x00\x00\x00\x01a\x00\x00\x00\x01b"))
	apart := Join(key, []byte("a"), []byte("b"))
	if inside == apart || Sum(key, joinedByWords([][]byte{[]byte("a"), []byte("b")})) != apart {
		t.Error("the parts are not behind their numbers of bytes")
	}
	for n := range 40 {
		for m := range n {
			if Join(key, make([][]byte, n)...) == Join(key, make([][]byte, m)...) {
				t.Errorf("the same tag for %d and %d empty parts", n, m)
			}
		}
	}
}

// P2.2: the order of the parts matters.
func TestOrderOfParts(t *testing.T) {
	key, parts := pattern(32, 1), [][]byte{[]byte("node"), pattern(32, 1), pattern(32, 2), pattern(32, 3), nil}
	want := Join(key, parts...)
	for i := range parts {
		for j := range i {
			other := slices.Clone(parts)
			other[i], other[j] = other[j], other[i]
			if Join(key, other...) == want {
				t.Errorf("the same tag with the parts %d and %d exchanged", j, i)
			}
		}
	}
}

// P2.1: each byte of the key and of the text matters.
func TestOneByteDiffers(t *testing.T) {
	for _, k := range []int{1, 32, 63, 64, 65, 130} {
		key, b := pattern(k, 1), pattern(130, 2)
		seen := map[Tag]bool{Sum(key, b): true}
		check := func(what string, i int, tag Tag) {
			if seen[tag] {
				t.Errorf("key of %d bytes: the same tag with byte %d of the %s changed", k, i, what)
			}
			seen[tag] = true
		}
		for i := range key {
			key[i] ^= 128
			check("key", i, Sum(key, b))
			key[i] ^= 128
		}
		for i := range b {
			b[i] ^= 1
			check("bytes", i, Sum(key, b))
			b[i] ^= 1
		}
	}
}

// R3: the key, the bytes and the parts are not changed, nor is what lies around them; and none of it matters.
func TestArgumentsUnchanged(t *testing.T) {
	for _, k := range keyLengths {
		for _, n := range []int{0, 1, 64, 65, 300} {
			keys, texts := pattern(k+200, 1), pattern(n+200, 2)
			keysBefore, textsBefore := bytes.Clone(keys), bytes.Clone(texts)
			key, b := keys[10:10+k], texts[20:20+n]
			if Sum(key, b) != libraryTag(keysBefore[10:10+k], textsBefore[20:20+n]) {
				t.Errorf("key of %d bytes, %d bytes: what lies around them matters", k, n)
			}
			list := [][]byte{b, key, nil, b[:n/2], []byte("hidden")}
			parts := list[:4]
			if Join(key, parts...) != libraryTag(key, joinedByWords(parts)) {
				t.Errorf("key of %d bytes, %d bytes: Join", k, n)
			}
			if !bytes.Equal(keys, keysBefore) || !bytes.Equal(texts, textsBefore) {
				t.Errorf("key of %d bytes, %d bytes: the memory of an argument was changed", k, n)
			}
			if !sameList(list, [][]byte{b, key, nil, b[:n/2], []byte("hidden")}) {
				t.Errorf("key of %d bytes, %d bytes: the list of parts was changed", k, n)
			}
		}
	}
}

func sameList(a, b [][]byte) bool {
	return slices.EqualFunc(a, b, func(x, y []byte) bool { return bytes.Equal(x, y) && (x == nil) == (y == nil) })
}

// R3: one memory may be key, bytes and part at the same time.
func TestSharedArguments(t *testing.T) {
	for _, n := range []int{0, 32, 64, 65, 200} {
		b := pattern(n, 1)
		if Sum(b, b) != libraryTag(bytes.Clone(b), bytes.Clone(b)) {
			t.Errorf("%d bytes as key and text", n)
		}
		if Join(b, b, b) != libraryTag(bytes.Clone(b), joinedByWords([][]byte{b, b})) {
			t.Errorf("%d bytes as key and parts", n)
		}
	}
}

// R3, R4: arguments are not kept, and earlier calls do not matter.
func TestArgumentsNotKept(t *testing.T) {
	key, b := pattern(64, 1), pattern(130, 2)
	parts := [][]byte{b, key}
	sum, join := Sum(key, b), Join(key, parts...)
	clear(key)
	clear(b)
	clear(parts)
	Sum(key, b)
	Join(key, parts...)
	key, b = pattern(64, 1), pattern(130, 2)
	if Sum(key, b) != sum || Join(key, b, key) != join {
		t.Error("a later change of an argument shows in another call")
	}
}

// R4: calls at the same time don't influence one another.
func TestCallsAtOnce(t *testing.T) {
	var wait sync.WaitGroup
	sums, joins := make([]Tag, 64), make([]Tag, 64)
	for i := range sums {
		wait.Go(func() {
			sums[i] = Sum(pattern(i*2, 1), pattern(i*9, 2))
			joins[i] = Join(pattern(i*2, 1), pattern(i, 2), pattern(i*3, 4))
		})
	}
	wait.Wait()
	for i := range sums {
		if sums[i] != libraryTag(pattern(i*2, 1), pattern(i*9, 2)) {
			t.Errorf("Sum %d: %x", i, sums[i])
		}
		if joins[i] != libraryTag(pattern(i*2, 1), joinedByWords([][]byte{pattern(i, 2), pattern(i*3, 4)})) {
			t.Errorf("Join %d: %x", i, joins[i])
		}
	}
}

// Ways: tags are compared as arrays, in every byte, and may be keys of a map.
func TestTagsCompared(t *testing.T) {
	tag := Sum([]byte("key"), []byte("text"))
	if !tag.Equal(Sum([]byte("key"), []byte("text"))) || tag != Sum([]byte("key"), []byte("text")) {
		t.Error("a tag is not equal to itself")
	}
	seen := map[Tag]int{tag: -1}
	for i := range tag {
		other := tag
		other[i] ^= 1
		if tag.Equal(other) || other.Equal(tag) || tag == other {
			t.Errorf("equal to a tag with another byte %d", i)
		}
		seen[other] = i
	}
	if len(seen) != 33 || seen[tag] != -1 {
		t.Errorf("%d different tags", len(seen))
	}
	if tag.Equal(Tag{}) || !(Tag{}).Equal(Tag{}) {
		t.Error("the tag of zeros is not compared as it should be")
	}
}
