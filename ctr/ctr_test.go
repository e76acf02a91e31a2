package ctr

import (
	"bytes"
	libraryBlocks "crypto/aes"
	"crypto/cipher"
	"encoding/binary"
	"encoding/hex"
	"math"
	"math/big"
	"sync"
	"testing"

	"padlock/aes"
)

type (
	bytes16 = [16]byte
	bytes12 = [12]byte
)

// lengths are numbers of bytes: none, parts of a block, whole blocks, the edges of them, and more than 256 blocks.
var lengths = []int{0, 1, 2, 7, 8, 12, 15, 16, 17, 31, 32, 33, 47, 48, 49, 63, 64, 65, 72, 100, 255, 256, 257, 1000, 255*16 + 15, 256 * 16, 256*16 + 1, 257 * 16, 257*16 + 5, 300*16 + 9}

// pattern returns n bytes without much order, and others for another seed.
func pattern(n, seed int) []byte {
	b := make([]byte, n)
	for i := range b {
		b[i] = byte(i*i*7 + i*(2*seed+1) + i/16*13 + seed*31 + 1)
	}
	return b
}

func filled(n int, x byte) []byte {
	return bytes.Repeat([]byte{x}, n)
}

// keys returns those of zeros alone and of FF alone, and ordinary ones.
func keys() []bytes16 {
	return []bytes16{{}, bytes16(filled(16, 255)), bytes16(pattern(16, 1)), bytes16(pattern(16, 2))}
}

// nonces returns those of zeros alone and of FF alone, and ordinary ones.
func nonces() []bytes12 {
	return []bytes12{{}, bytes12(filled(12, 255)), bytes12(pattern(12, 3)), bytes12(pattern(12, 4)), {11: 1}, {0: 128}}
}

func bytesOf(t *testing.T, text string) []byte {
	t.Helper()
	b, err := hex.DecodeString(text)
	if err != nil {
		t.Fatalf("%q is not the form of bytes", text)
	}
	return b
}

// streamByWords returns n bytes of the key stream as the chapter's words give it.
func streamByWords(key bytes16, nonce bytes12, n int) []byte {
	var stream []byte
	for number := uint32(0); len(stream) < n; number++ {
		block := binary.BigEndian.AppendUint32(nonce[:], number)
		part := aes.Encrypt(key, bytes16(block))
		stream = append(stream, part[:]...)
	}
	return stream[:n]
}

// codedByLibrary is what the library of the language encrypts b to.
func codedByLibrary(key bytes16, nonce bytes12, b []byte) []byte {
	c, err := libraryBlocks.NewCipher(key[:])
	if err != nil {
		panic(err)
	}
	out := make([]byte, len(b))
	cipher.NewCTR(c, append(nonce[:], 0, 0, 0, 0)).XORKeyStream(out, b)
	return out
}

// P4.1: the example of the chapter, and R3: a nil list and an empty one are the same.
func TestNoBytes(t *testing.T) {
	for _, key := range keys() {
		for _, nonce := range nonces() {
			for _, b := range [][]byte{nil, {}, make([]byte, 0, 40), pattern(40, 1)[:0], pattern(40, 1)[40:]} {
				if got := Code(key, nonce, b); len(got) != 0 {
					t.Errorf("no bytes (nil: %v, capacity %d): got %x", b == nil, cap(b), got)
				}
			}
		}
	}
}

// P4.1: published key streams. Those that begin with number 1 stand behind 16 bytes for number 0.
func TestKnownStreams(t *testing.T) {
	for _, c := range []struct {
		key, nonce, plain string
		skip              int
		want              string
	}{
		{"00000000000000000000000000000000", "000000000000000000000000", "000000000000000000000000000000000000000000000000000000000000000000000000000000000000000000000000", 0, "66e94bd4ef8a2c3b884cfa59ca342b2e58e2fccefa7e3061367f1d57a4e7455a0388dace60b6a392f328c2b971b2fe78"},
		{"ae6852f8121067cc4bf7a5765577f39e", "000000300000000000000000", "53696e676c6520626c6f636b206d7367", 16, "e4095d4fb7a7b3792d6175a3261311b8"},
		{"7e24067817fae0d743d6ce1f32539163", "006cb6dbc0543b59da48d90b", "000102030405060708090a0b0c0d0e0f101112131415161718191a1b1c1d1e1f", 16, "5104a106168a72d9790d41ee8edad388eb2e1efc46da57c8fce630df9141be28"},
		{"7691be035e5020a8ac6e618529f9a0dc", "00e0017b27777f3f4a1786f0", "000102030405060708090a0b0c0d0e0f101112131415161718191a1b1c1d1e1f20212223", 16, "c1cf48a89f2ffdd9cf4652e9efdb72d74540a42bde6d7836d59a5ceaaef3105325b2072f"},
	} {
		key, nonce := bytes16(bytesOf(t, c.key)), bytes12(bytesOf(t, c.nonce))
		b := append(make([]byte, c.skip), bytesOf(t, c.plain)...)
		if got := hex.EncodeToString(Code(key, nonce, b)[c.skip:]); got != c.want {
			t.Errorf("key %s, nonce %s: got %s, want %s", c.key, c.nonce, got, c.want)
		}
	}
}

// P4.1: each byte is that of b, exclusive-ored with the key stream's at its position.
func TestEachByte(t *testing.T) {
	for _, key := range keys() {
		for _, nonce := range nonces() {
			stream := streamByWords(key, nonce, lengths[len(lengths)-1])
			for _, n := range lengths {
				for name, b := range map[string][]byte{"zeros": filled(n, 0), "FF": filled(n, 255), "a pattern": pattern(n, 5)} {
					got := Code(key, nonce, b)
					if len(got) != n {
						t.Fatalf("key %x, nonce %x, %d bytes: got %d bytes", key, nonce, n, len(got))
					}
					for i := range got {
						if want := b[i] ^ stream[i]; got[i] != want {
							t.Fatalf("key %x, nonce %x, %d bytes of %s, byte %d: got %02x, want %02x", key, nonce, n, name, i, got[i], want)
						}
					}
				}
			}
		}
	}
}

// P4.1: every number of bytes up to some blocks.
func TestEveryLength(t *testing.T) {
	for n := 0; n <= 200; n++ {
		for seed := range 3 {
			key, nonce, b := bytes16(pattern(16, seed)), bytes12(pattern(12, seed+n)), pattern(n, seed+9)
			if got, want := Code(key, nonce, b), codedByLibrary(key, nonce, b); !bytes.Equal(got, want) {
				t.Errorf("key %x, nonce %x, %d bytes: got %x, want %x", key, nonce, n, got, want)
			}
		}
	}
}

// P4.1: so many bytes that the number in the block needs its second and its third byte.
func TestManyBlocks(t *testing.T) {
	for _, n := range []int{257 * 16, 511*16 + 3, 513 * 16, 65536 * 16, 65537*16 + 1} {
		for i, key := range keys()[1:3] {
			nonce, b := nonces()[i+1], pattern(n, 6)
			if got, want := Code(key, nonce, b), codedByLibrary(key, nonce, b); !bytes.Equal(got, want) {
				t.Errorf("key %x, nonce %x, %d bytes: not what the library encrypts them to", key, nonce, n)
			}
		}
	}
}

// P4.1: a number that needs any of its four bytes stands behind the nonce, the most significant byte first.
func TestNumbersOfBlocks(t *testing.T) {
	for _, key := range keys() {
		for _, nonce := range nonces() {
			for _, number := range []uint32{0, 1, 255, 256, 257, 65535, 65536, 0x010203, 1<<24 - 1, 1 << 24, 0x01020304, 0xfffefdfc, math.MaxUint32} {
				block := append(bytes.Clone(nonce[:]), byte(number>>24), byte(number>>16), byte(number>>8), byte(number))
				if got, want := streamBlock(key, nonce, number), aes.Encrypt(key, bytes16(block)); got != want {
					t.Errorf("key %x, nonce %x, number %d: got %x, want %x", key, nonce, number, got, want)
				}
			}
		}
	}
}

// P4.1: each bit of the key and of the nonce matters, and so the order of their bytes.
func TestOneBitDiffers(t *testing.T) {
	b := pattern(20, 7)
	for _, key := range keys() {
		for _, nonce := range nonces() {
			seen := map[string]int{string(Code(key, nonce, b)): -1}
			for bit := range 8 * (16 + 12) {
				nearKey, nearNonce := key, nonce
				if bit < 8*16 {
					nearKey[bit/8] ^= 128 >> (bit % 8)
				} else {
					nearNonce[bit/8-16] ^= 128 >> (bit % 8)
				}
				got := Code(nearKey, nearNonce, b)
				if old, ok := seen[string(got)]; ok {
					t.Errorf("key %x, nonce %x: the same with the bits %d and %d changed", key, nonce, old, bit)
				}
				if want := codedByLibrary(nearKey, nearNonce, b); !bytes.Equal(got, want) {
					t.Errorf("key %x, nonce %x: got %x, want %x", nearKey, nearNonce, got, want)
				}
				seen[string(got)] = bit
			}
		}
	}
}

// P4.1, Nonce: blocks and versions that need none, some and all of their bytes.
func TestNonces(t *testing.T) {
	for _, c := range []struct {
		block   int
		version uint64
		want    string
	}{
		{0, 0, "000000000000000000000000"},
		{0, 1, "000000000000000000000001"},
		{1, 0, "000000010000000000000000"},
		{3, 5, "000000030000000000000005"},
		{255, 256, "000000ff0000000000000100"},
		{256, 255, "0000010000000000000000ff"},
		{0x01020304, 0x05060708090a0b0c, "0102030405060708090a0b0c"},
		{0x7fffffff, 1 << 63, "7fffffff8000000000000000"},
		{0x80000000, 1<<63 - 1, "800000007fffffffffffffff"},
		{0xfffefdfc, 0xfbfaf9f8f7f6f5f4, "fffefdfcfbfaf9f8f7f6f5f4"},
		{0, math.MaxUint64, "00000000ffffffffffffffff"},
		{1<<32 - 1, math.MaxUint64, "ffffffffffffffffffffffff"},
		{1 << 32, 7, "000000000000000000000007"},
		{1<<32 + 1, 7, "000000010000000000000007"},
		{0x0102030405060708, 9, "050607080000000000000009"},
		{math.MaxInt, 9, "ffffffff0000000000000009"},
		{-1, 0, "ffffffff0000000000000000"},
		{-2, math.MaxUint64, "fffffffeffffffffffffffff"},
		{-1 << 31, 2, "800000000000000000000002"},
		{-1<<32 + 1, 2, "000000010000000000000002"},
		{-1 << 32, 2, "000000000000000000000002"},
		{-1<<32 - 1, 2, "ffffffff0000000000000002"},
		{math.MinInt, 2, "000000000000000000000002"},
	} {
		got := Nonce(c.block, c.version)
		if hex.EncodeToString(got[:]) != c.want {
			t.Errorf("Nonce(%d, %d): got %x, want %s", c.block, c.version, got, c.want)
		}
	}
}

// nonceByWords takes the block modulo 2^32 by numbers without a limit.
func nonceByWords(block int, version uint64) bytes12 {
	modulus := new(big.Int).Lsh(big.NewInt(1), 32)
	rest := new(big.Int).Mod(big.NewInt(int64(block)), modulus)
	var nonce bytes12
	rest.FillBytes(nonce[:4])
	new(big.Int).SetUint64(version).FillBytes(nonce[4:])
	return nonce
}

// P4.1, Nonce: each bit of the block and of the version, with all signs.
func TestNonceBits(t *testing.T) {
	for i := range 64 {
		for _, version := range []uint64{0, 1 << i, 1<<i - 1, ^uint64(1 << i)} {
			for _, block := range []int{1 << i, 1<<i - 1, 1<<i + 1, -1 << i, -(1<<i - 1), ^(1 << i)} {
				if got, want := Nonce(block, version), nonceByWords(block, version); got != want {
					t.Errorf("Nonce(%d, %d): got %x, want %x", block, version, got, want)
				}
			}
		}
	}
}

// P4.1, Nonce: other blocks below 2^32, or other versions, have other nonces.
func TestNoncesDiffer(t *testing.T) {
	numbers := []uint64{0, 1, 2, 255, 256, 65535, 65536, 1<<24 - 1, 1 << 24, 1<<31 - 1, 1 << 31, 1<<32 - 1}
	seen := map[bytes12][2]uint64{}
	for _, block := range numbers {
		for _, version := range append(numbers, 1<<32, 1<<40, 1<<48, 1<<56, 1<<63, math.MaxUint64) {
			nonce := Nonce(int(block), version)
			if old, ok := seen[nonce]; ok {
				t.Errorf("%x for both %v and %v", nonce, old, [2]uint64{block, version})
			}
			seen[nonce] = [2]uint64{block, version}
		}
	}
}

// P4.1: Code with what Nonce returns, as a block of a disk is encrypted.
func TestCodeWithNonce(t *testing.T) {
	key, b := bytes16(pattern(16, 8)), pattern(64, 9)
	for _, block := range []int{0, 3, -1, 1 << 32} {
		for _, version := range []uint64{0, 5, math.MaxUint64} {
			got := Code(key, Nonce(block, version), b)
			if want := codedByLibrary(key, nonceByWords(block, version), b); !bytes.Equal(got, want) {
				t.Errorf("block %d, version %d: got %x, want %x", block, version, got, want)
			}
		}
	}
}

// P4.2: b is as it was behind the call, and so is what lies around it; and none of that matters.
func TestArgumentUnchanged(t *testing.T) {
	for _, n := range lengths {
		around := pattern(n+80, 10)
		before := bytes.Clone(around)
		key, nonce := keys()[2], nonces()[2]
		got := Code(key, nonce, around[30:30+n])
		if !bytes.Equal(around, before) {
			t.Errorf("%d bytes: the memory of the argument was changed", n)
		}
		if key != keys()[2] || nonce != nonces()[2] {
			t.Errorf("%d bytes: key %x, nonce %x behind the call", n, key, nonce)
		}
		if !bytes.Equal(got, codedByLibrary(key, nonce, before[30:30+n])) {
			t.Errorf("%d bytes: what lies around the argument matters", n)
		}
	}
}

// P4.2: neither a change of the result nor of b afterwards changes the other.
func TestResultIsNewMemory(t *testing.T) {
	for _, n := range lengths {
		key, nonce, b := keys()[2], nonces()[3], pattern(n, 11)
		got := Code(key, nonce, b)
		want := bytes.Clone(got)
		for i := range b {
			b[i] ^= 255
		}
		if !bytes.Equal(got, want) {
			t.Errorf("%d bytes: a change of the argument changed the result", n)
		}
		changed := bytes.Clone(b)
		for i := range got {
			got[i] += 77
		}
		_ = append(got, 1, 2, 3)
		if !bytes.Equal(b, changed) {
			t.Errorf("%d bytes: a change of the result changed the argument", n)
		}
	}
}

// P4.2: the room behind b is not where the result is, and two results share none.
func TestResultsShareNothing(t *testing.T) {
	key, nonce := keys()[3], nonces()[2]
	room := pattern(200, 12)
	b := room[:60]
	first := Code(key, nonce, b)
	second := Code(key, nonce, b)
	want := bytes.Clone(second)
	clear(first[:cap(first)])
	if !bytes.Equal(room, pattern(200, 12)) {
		t.Error("a change of the result changed the room behind the argument")
	}
	if !bytes.Equal(second, want) || !bytes.Equal(Code(key, nonce, b), want) {
		t.Error("a change of a result changed another one")
	}
}

// P4.3: what was encrypted is restored by the same key and nonce, and not by others.
func TestRestored(t *testing.T) {
	for _, key := range keys() {
		for _, nonce := range nonces() {
			for _, n := range lengths {
				b := pattern(n, 13)
				coded := Code(key, nonce, b)
				if got := Code(key, nonce, coded); !bytes.Equal(got, b) {
					t.Errorf("key %x, nonce %x, %d bytes: not restored", key, nonce, n)
				}
				if n < 16 {
					continue
				}
				otherKey, otherNonce := key, nonce
				otherKey[15] ^= 1
				otherNonce[11] ^= 1
				if bytes.Equal(Code(otherKey, nonce, coded), b) || bytes.Equal(Code(key, otherNonce, coded), b) {
					t.Errorf("key %x, nonce %x, %d bytes: restored by another key or nonce", key, nonce, n)
				}
			}
		}
	}
}

// P4.3: every prefix is encrypted to the prefix of what the whole is encrypted to.
func TestPrefixes(t *testing.T) {
	for seed := range 3 {
		key, nonce, whole := bytes16(pattern(16, seed)), bytes12(pattern(12, seed)), pattern(150, seed)
		coded := Code(key, nonce, whole)
		for n := range len(whole) + 1 {
			if got := Code(key, nonce, whole[:n]); !bytes.Equal(got, coded[:n]) {
				t.Errorf("seed %d: the first %d bytes: got %x, want %x", seed, n, got, coded[:n])
			}
		}
	}
	key, nonce, whole := keys()[1], nonces()[1], pattern(258*16, 14)
	coded := Code(key, nonce, whole)
	for _, n := range []int{255 * 16, 255*16 + 1, 256*16 - 1, 256 * 16, 256*16 + 1, 257 * 16, 257*16 + 15} {
		if got := Code(key, nonce, whole[:n]); !bytes.Equal(got, coded[:n]) {
			t.Errorf("the first %d bytes: not the prefix", n)
		}
	}
}

// R4: neither calls before nor calls at the same time influence a call.
func TestCallsAtOnce(t *testing.T) {
	var wait sync.WaitGroup
	got := make([][]byte, 64)
	shared := pattern(100, 15)
	for i := range got {
		wait.Go(func() { got[i] = Code(bytes16(pattern(16, i)), Nonce(i, uint64(i)), shared) })
	}
	wait.Wait()
	for i := range got {
		want := codedByLibrary(bytes16(pattern(16, i)), nonceByWords(i, uint64(i)), shared)
		if !bytes.Equal(got[i], want) {
			t.Errorf("call %d: got %x, want %x", i, got[i], want)
		}
		if again := Code(bytes16(pattern(16, i)), Nonce(i, uint64(i)), shared); !bytes.Equal(again, want) {
			t.Errorf("call %d again: got %x, want %x", i, again, want)
		}
	}
}
