package seal

import (
	"bytes"
	libraryBlocks "crypto/aes"
	"crypto/cipher"
	libraryTags "crypto/hmac"
	"crypto/sha256"
	"encoding/binary"
	"encoding/hex"
	"fmt"
	"math"
	"math/rand"
	"sync"
	"testing"

	"padlock/api"
	"padlock/hmac"
)

// blocks are numbers of blocks: ordinary ones, and the edges of 4 bytes and of int.
var blocks = []int{0, 1, 3, 127, 128, 255, 256, 65535, 65536, math.MaxInt32, math.MaxInt32 + 1, math.MaxUint32, -1, -2, math.MinInt32, math.MinInt, math.MaxInt}

// versions are ordinary ones, and the edges of 8 bytes.
var versions = []uint64{0, 1, 5, 255, 256, math.MaxUint32, math.MaxUint32 + 1, 1 << 63, math.MaxUint64}

// pattern returns n bytes without much order, and others for another seed.
func pattern(n, seed int) []byte {
	b := make([]byte, n)
	for i := range b {
		b[i] = byte(i*i*5 + i*(2*seed+1) + seed*31 + 1)
	}
	return b
}

// secrets are none, and short and long ones, those around the size of the key of a tag among them.
func secrets() [][]byte {
	l := [][]byte{nil, {1}, []byte("secret")}
	for seed, n := range []int{16, 32, 63, 64, 65, 100, 1000} {
		l = append(l, pattern(n, seed))
	}
	return l
}

// plains are blocks of Size bytes: of one byte alone, and ordinary ones.
func plains() [][]byte {
	return [][]byte{make([]byte, 64), bytes.Repeat([]byte{255}, 64), pattern(64, 1), pattern(64, 2)}
}

// joined is the tag of the parts, as chapter 2 says it, by the library of the language.
func joined(key []byte, parts ...[]byte) hmac.Tag {
	h := libraryTags.New(sha256.New, key)
	for _, part := range parts {
		h.Write(binary.BigEndian.AppendUint32(nil, uint32(len(part))))
		h.Write(part)
	}
	return hmac.Tag(h.Sum(nil))
}

func keysByWords(secret []byte) Keys {
	var k Keys
	enc := joined(secret, []byte{'e', 'n', 'c'})
	copy(k.Enc[:], enc[:])
	k.Mac = joined(secret, []byte{'m', 'a', 'c'})
	return k
}

func tagByWords(k Keys, block int, raw []byte) hmac.Tag {
	number := binary.BigEndian.AppendUint32(nil, uint32(block))
	return joined(k.Mac[:], []byte{'l', 'e', 'a', 'f'}, number, raw)
}

// sealedByWords is the block as the chapter's words seal it, with the library's counter mode.
func sealedByWords(k Keys, block int, version uint64, plain []byte) []byte {
	c, err := libraryBlocks.NewCipher(k.Enc[:])
	if err != nil {
		panic(err)
	}
	first := binary.BigEndian.AppendUint32(nil, uint32(block))
	first = binary.BigEndian.AppendUint64(first, version)
	first = append(first, 0, 0, 0, 0)
	hidden := make([]byte, len(plain))
	cipher.NewCTR(c, first).XORKeyStream(hidden, plain)
	return append(binary.BigEndian.AppendUint64(nil, version), hidden...)
}

func sealed(t *testing.T, k Keys, block int, version uint64, plain []byte) ([]byte, hmac.Tag) {
	t.Helper()
	raw, tag, err := Close(k, block, version, plain)
	if err != api.OK || len(raw) != 72 {
		t.Fatalf("Close of block %d, version %d: got %d bytes, error %d", block, version, len(raw), err)
	}
	return raw, tag
}

func checkOpen(t *testing.T, k Keys, block int, raw []byte, tag hmac.Tag, want []byte, version uint64) {
	t.Helper()
	got, gotVersion, err := Open(k, block, raw, tag)
	if err != api.OK || !bytes.Equal(got, want) || gotVersion != version {
		t.Errorf("Open of block %d: got %x, version %d, error %d, want %x, version %d", block, got, gotVersion, err, want, version)
	}
}

func checkRefused(t *testing.T, k Keys, block int, raw []byte, tag hmac.Tag, want api.Errno, what string) {
	t.Helper()
	b, version, err := Open(k, block, raw, tag)
	if len(b) != 0 || version != 0 || err != want {
		t.Errorf("Open %s: got %x, version %d, error %d, want error %d alone", what, b, version, err, want)
	}
}

// P7.1: the keys of a secret, as the words give them; the two of them differ, and each secret has its own.
func TestDerive(t *testing.T) {
	seen := map[string]string{}
	for _, secret := range secrets() {
		k := Derive(secret)
		if want := keysByWords(secret); k != want {
			t.Errorf("Derive(%x): got %x, want %x", secret, k, want)
		}
		for _, text := range []string{string(k.Enc[:]), string(k.Mac[:16]), string(k.Mac[16:])} {
			if other, ok := seen[text]; ok {
				t.Errorf("the keys of %x and %x have a part in common", secret, other)
			}
			seen[text] = string(secret)
		}
	}
}

// P7.1: the keys of one secret, byte for byte, which another program computed.
func TestDeriveOfKnownSecret(t *testing.T) {
	k := Derive([]byte("secret"))
	if got := hex.EncodeToString(k.Enc[:]); got != "6167a89b441cf1f67ced0bb1872fb5ee" {
		t.Errorf("Enc: got %s", got)
	}
	if got := hex.EncodeToString(k.Mac[:]); got != "ca7df901e69a2217e1a28b153863c2d8c35ff3fbd8b7950481d13b18e4749e83" {
		t.Errorf("Mac: got %s", got)
	}
}

// R3: a nil secret and an empty one are the same.
func TestDeriveOfNothing(t *testing.T) {
	if Derive(nil) != Derive([]byte{}) {
		t.Error("a nil secret and an empty one have different keys")
	}
}

// The example of the chapter.
func TestExample(t *testing.T) {
	for _, secret := range secrets() {
		raw, _ := sealed(t, Derive(secret), 3, 5, make([]byte, 64))
		if !bytes.Equal(raw[:8], []byte{0, 0, 0, 0, 0, 0, 0, 5}) {
			t.Errorf("the first bytes: %x", raw[:8])
		}
	}
}

// P7.1: sealed blocks and their tags, for each block, version and content.
func TestClose(t *testing.T) {
	for _, k := range []Keys{{}, Derive(nil), Derive([]byte("secret")), {Enc: [16]byte{15: 255}, Mac: hmac.Tag{31: 255}}} {
		for _, block := range blocks {
			for _, version := range versions {
				for _, plain := range plains() {
					raw, tag := sealed(t, k, block, version, plain)
					if want := sealedByWords(k, block, version, plain); !bytes.Equal(raw, want) {
						t.Fatalf("block %d, version %d: got %x, want %x", block, version, raw, want)
					}
					if want := tagByWords(k, block, raw); tag != want {
						t.Fatalf("block %d, version %d: got tag %x, want %x", block, version, tag, want)
					}
				}
			}
		}
	}
}

// P7.1: any number of bytes but Size is refused, that of a sealed block among them; beside the error is nothing (R2).
func TestCloseOfWrongNumberOfBytes(t *testing.T) {
	k := Derive([]byte("secret"))
	for _, n := range []int{0, 1, 8, 32, 62, 63, 65, 66, 71, 72, 73, 128, 1000, 1<<16 + 64} {
		for _, plain := range [][]byte{pattern(n, 1), make([]byte, n)} {
			raw, tag, err := Close(k, 3, 5, plain)
			if len(raw) != 0 || tag != (hmac.Tag{}) || err != api.ErrArg {
				t.Errorf("Close of %d bytes: got %x, %x, error %d, want error %d alone", n, raw, tag, err, api.ErrArg)
			}
		}
	}
	if raw, tag, err := Close(k, 0, 0, nil); raw != nil || tag != (hmac.Tag{}) || err != api.ErrArg {
		t.Errorf("Close of nil: got %x, %x, error %d", raw, tag, err)
	}
}

// P7.1: the tag of any bytes.
func TestTag(t *testing.T) {
	for _, k := range []Keys{{}, Derive([]byte("secret"))} {
		for _, block := range blocks {
			for _, n := range []int{0, 1, 63, 64, 71, 72, 73, 1000, 70000} {
				raw := pattern(n, block)
				if got, want := Tag(k, block, raw), tagByWords(k, block, raw); got != want {
					t.Errorf("block %d, %d bytes: got %x, want %x", block, n, got, want)
				}
			}
		}
	}
	if k := Derive(nil); Tag(k, 0, nil) != Tag(k, 0, []byte{}) {
		t.Error("nil and no bytes have different tags")
	}
}

// Words: the tag takes the number modulo 2^32, and the nonce does too; nothing else of Keys but Mac counts for the tag.
func TestWhatTagDependsOn(t *testing.T) {
	k := Derive([]byte("secret"))
	raw := pattern(72, 1)
	same := Tag(k, 3, raw)
	for _, block := range []int{3 + 1<<32, 3 - 1<<32, 3 + 5<<32} {
		if Tag(k, block, raw) != same {
			t.Errorf("block %d has not the tag of block 3", block)
		}
	}
	if Tag(Keys{Mac: k.Mac}, 3, raw) != same {
		t.Error("the tag depends on Enc")
	}
	differ := map[hmac.Tag]string{same: "as it was"}
	add := func(tag hmac.Tag, what string) {
		if other, ok := differ[tag]; ok {
			t.Errorf("one tag: %s, and %s", what, other)
		}
		differ[tag] = what
	}
	for bit := range 32 {
		add(Tag(k, 3^1<<bit, raw), fmt.Sprintf("another block, bit %d", bit))
	}
	for i := range raw {
		raw[i] ^= 128
		add(Tag(k, 3, raw), fmt.Sprintf("another byte %d", i))
		raw[i] ^= 128
	}
	for n := range 72 {
		add(Tag(k, 3, raw[:n]), fmt.Sprintf("%d bytes", n))
	}
	for i := range k.Mac {
		k.Mac[i] ^= 1
		add(Tag(k, 3, raw), fmt.Sprintf("another key, byte %d", i))
		k.Mac[i] ^= 1
	}
}

// P7.2, P7.4: what was sealed is opened again.
func TestOpen(t *testing.T) {
	for _, secret := range secrets() {
		k := Derive(secret)
		for _, block := range blocks {
			for i, version := range versions {
				plain := plains()[i%len(plains())]
				raw, tag := sealed(t, k, block, version, plain)
				checkOpen(t, k, block, raw, tag, plain, version)
			}
		}
	}
}

// P7.2: any 72 bytes with their own tag are opened, whoever made them.
func TestOpenOfAnyBytes(t *testing.T) {
	k := Derive([]byte("secret"))
	for seed := range 100 {
		raw := pattern(72, seed)
		version := binary.BigEndian.Uint64(raw)
		plain, _, err := Open(k, seed, raw, Tag(k, seed, raw))
		if err != api.OK || !bytes.Equal(sealedByWords(k, seed, version, plain), raw) {
			t.Errorf("seed %d: got %x, error %d", seed, plain, err)
		}
	}
	raw := make([]byte, 72)
	plain, version, err := Open(Keys{}, 0, raw, Tag(Keys{}, 0, raw))
	if err != api.OK || version != 0 || !bytes.Equal(sealedByWords(Keys{}, 0, 0, plain), raw) {
		t.Errorf("zeros: got %x, version %d, error %d", plain, version, err)
	}
}

// P7.2: a change of any bit of the bytes, of the tag, of the number or of the key Mac is detected.
func TestOpenDetectsChanges(t *testing.T) {
	k := Derive([]byte("secret"))
	raw, tag := sealed(t, k, 3, 5, pattern(64, 1))
	for bit := range 8 * 72 {
		raw[bit/8] ^= 1 << (bit % 8)
		checkRefused(t, k, 3, raw, tag, api.ErrIntegrity, fmt.Sprintf("with another bit %d", bit))
		raw[bit/8] ^= 1 << (bit % 8)
	}
	for bit := range 8 * 32 {
		other := tag
		other[bit/8] ^= 1 << (bit % 8)
		checkRefused(t, k, 3, raw, other, api.ErrIntegrity, fmt.Sprintf("with another bit %d of the tag", bit))
		key := k
		key.Mac[bit/8] ^= 1 << (bit % 8)
		checkRefused(t, key, 3, raw, tag, api.ErrIntegrity, fmt.Sprintf("with another bit %d of the key", bit))
	}
	for bit := range 32 {
		checkRefused(t, k, 3^1<<bit, raw, tag, api.ErrIntegrity, fmt.Sprintf("with another bit %d of the number", bit))
	}
	checkRefused(t, k, 3, raw, hmac.Tag{}, api.ErrIntegrity, "with a tag of zeros")
	checkRefused(t, Keys{Enc: k.Enc}, 3, raw, tag, api.ErrIntegrity, "with a key of zeros")
	checkOpen(t, k, 3, raw, tag, pattern(64, 1), 5)
}

// P7.2: the key Enc has no part in the tag: with another one, other bytes are restored, and the same version.
func TestOpenWithOtherEnc(t *testing.T) {
	k := Derive([]byte("secret"))
	raw, tag := sealed(t, k, 3, 5, pattern(64, 1))
	k.Enc[0] ^= 1
	plain, version, err := Open(k, 3, raw, tag)
	if err != api.OK || version != 5 || !bytes.Equal(sealedByWords(k, 3, 5, plain), raw) {
		t.Errorf("got %x, version %d, error %d", plain, version, err)
	}
}

// P7.2: any number of bytes but Raw is refused, before the tag is looked at (R2).
func TestOpenOfWrongNumberOfBytes(t *testing.T) {
	k := Derive([]byte("secret"))
	for _, n := range []int{0, 1, 7, 8, 63, 64, 65, 70, 71, 73, 74, 80, 144, 1000, 1<<16 + 72} {
		raw := pattern(n, 1)
		checkRefused(t, k, 3, raw, Tag(k, 3, raw), api.ErrArg, fmt.Sprintf("of %d bytes, with their tag", n))
		checkRefused(t, k, 3, raw, hmac.Tag{}, api.ErrArg, fmt.Sprintf("of %d bytes", n))
	}
	checkRefused(t, k, 3, nil, Tag(k, 3, nil), api.ErrArg, "of nil")
}

// P7.1, P7.2: blocks whose numbers are equal modulo 2^32 are sealed and opened in the same way.
func TestNumbersModulo(t *testing.T) {
	k := Derive([]byte("secret"))
	raw, tag := sealed(t, k, 7, 5, pattern(64, 1))
	for _, block := range []int{7 + 1<<32, 7 - 1<<32, 7 + 3<<40} {
		other, otherTag := sealed(t, k, block, 5, pattern(64, 1))
		if !bytes.Equal(other, raw) || otherTag != tag {
			t.Errorf("block %d is not sealed as block 7 is", block)
		}
		checkOpen(t, k, block, raw, tag, pattern(64, 1), 5)
	}
}

// P7.3: calls change no argument.
func TestArgumentsUnchanged(t *testing.T) {
	secret, long := []byte("secret"), pattern(100, 1)
	k := Derive(secret)
	Derive(long)
	if string(secret) != "secret" || !bytes.Equal(long, pattern(100, 1)) {
		t.Error("Derive changed the secret")
	}
	plain := append(pattern(64, 1), pattern(64, 2)...)
	before := bytes.Clone(plain)
	raw, tag := sealed(t, k, 3, 5, plain[:64])
	if !bytes.Equal(plain, before) {
		t.Error("Close changed the bytes")
	}
	room := append(bytes.Clone(raw), pattern(64, 3)...)
	before = bytes.Clone(room)
	Tag(k, 3, room[:72])
	Open(k, 3, room[:72], tag)
	Open(k, 4, room[:72], tag)
	if !bytes.Equal(room, before) {
		t.Error("Tag or Open changed the bytes")
	}
	if k != Derive(secret) {
		t.Error("the keys were changed")
	}
}

// P7.3: results share nothing with arguments, or with other results.
func TestResultsAreNew(t *testing.T) {
	k := Derive([]byte("secret"))
	plain := pattern(64, 1)
	raw, tag := sealed(t, k, 3, 5, plain)
	again, _ := sealed(t, k, 3, 5, plain)
	for i := range again {
		again[i] ^= 255
	}
	if !bytes.Equal(plain, pattern(64, 1)) || !bytes.Equal(raw, sealedByWords(k, 3, 5, plain)) {
		t.Error("Close: results share memory")
	}
	clear(plain)
	checkOpen(t, k, 3, raw, tag, pattern(64, 1), 5)
	opened, _, _ := Open(k, 3, raw, tag)
	for i := range opened {
		opened[i] ^= 255
	}
	checkOpen(t, k, 3, raw, tag, pattern(64, 1), 5)
	if whole := opened[:cap(opened)]; len(whole) > 64 {
		for i := range whole[64:] {
			whole[64+i] ^= 255
		}
	}
	checkOpen(t, k, 3, raw, tag, pattern(64, 1), 5)
}

// P7.4: many blocks, by chance.
func TestWhatWasSealedIsOpened(t *testing.T) {
	r := rand.New(rand.NewSource(7))
	for range 2000 {
		secret, plain := make([]byte, r.Intn(100)), make([]byte, 64)
		r.Read(secret)
		r.Read(plain)
		k, block, version := Derive(secret), int(r.Uint64()), r.Uint64()
		raw, tag := sealed(t, k, block, version, plain)
		checkOpen(t, k, block, raw, tag, plain, version)
	}
}

// R4: the same at any time, also from many goroutines.
func TestSameFromManyGoroutines(t *testing.T) {
	k := Derive([]byte("secret"))
	raw, tag := sealed(t, k, 3, 5, pattern(64, 1))
	var wait sync.WaitGroup
	for range 8 {
		wait.Go(func() {
			for range 20 {
				again, againTag, _ := Close(Derive([]byte("secret")), 3, 5, pattern(64, 1))
				if !bytes.Equal(again, raw) || againTag != tag {
					t.Error("Close: another result")
				}
				checkOpen(t, k, 3, raw, tag, pattern(64, 1), 5)
			}
		})
	}
	wait.Wait()
}
