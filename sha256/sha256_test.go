package sha256

import (
	"bytes"
	other "crypto/sha256"
	"encoding/hex"
	"math/big"
	"strings"
	"sync"
	"testing"
)

// edges are the lengths around which the padding changes its form.
var edges = []int{0, 1, 54, 55, 56, 57, 62, 63, 64, 65, 118, 119, 120, 121, 127, 128, 129, 183, 184, 191, 192, 193}

// pattern returns n bytes, of which neighbours and blocks differ.
func pattern(n int) []byte {
	b := make([]byte, n)
	for i := range b {
		b[i] = byte(i*7 + i/64*13 + 1)
	}
	return b
}

func hexSum(b []byte) string {
	d := Sum(b)
	return hex.EncodeToString(d[:])
}

// P1.1: the example of the chapter, and other published digests.
func TestKnownDigests(t *testing.T) {
	for _, c := range []struct{ in, want string }{
		{"", "e3b0c44298fc1c149afbf4c8996fb92427ae41e4649b934ca495991b7852b855"},
		{"abc", "ba7816bf8f01cfea414140de5dae2223b00361a396177a9cb410ff61f20015ad"},
		{"abcdbcdecdefdefgefghfghighijhijkijkljklmklmnlmnomnopnopq", "248d6a61d20638b8e5c026930c3e6039a33ce45964ff2167f6ecedd419db06c1"},
		{"abcdefghbcdefghicdefghijdefghijkefghijklfghijklmghijklmnhijklmnoijklmnopjklmnopqklmnopqrlmnopqrsmnopqrstnopqrstu", "cf5b16a778af8380036ce59e7b0492370b249b11e8f07a51afac45037afee9d1"},
		{"The quick brown fox jumps over the lazy dog", "d7a8fbb307d7809469ca9abcb0082e4f8d5651e46d3cdb762d02d0bf37c9e592"},
		{strings.Repeat("a", 1000000), "cdc76e5c9914fb9281a1c7e284d73e67f1809a48a497200e046d39ccc7112cd0"},
	} {
		if got := hexSum([]byte(c.in)); got != c.want {
			t.Errorf("Sum of %d bytes: got %s, want %s", len(c.in), got, c.want)
		}
	}
}

// P1.1: digests at the edges of the padding.
func TestPaddingEdges(t *testing.T) {
	for _, n := range edges {
		for name, b := range map[string][]byte{
			"pattern": pattern(n),
			"zeros":   make([]byte, n),
			"ones":    bytes.Repeat([]byte{255}, n),
			"128":     bytes.Repeat([]byte{128}, n),
		} {
			if got, want := Sum(b), other.Sum256(b); got != want {
				t.Errorf("Sum of %s, %d bytes: got %x, want %x", name, n, got, want)
			}
		}
	}
}

// P1.1: every length up to several blocks, and some long ones.
func TestEveryLength(t *testing.T) {
	long := []int{1000, 4095, 4096, 4097, 65535, 65536, 1 << 20, 1<<20 + 55, 1<<20 + 56}
	for n := 0; n <= 600; n++ {
		long = append(long, n)
	}
	for _, n := range long {
		b := pattern(n)
		if got, want := Sum(b), other.Sum256(b); got != want {
			t.Errorf("Sum of %d bytes: got %x, want %x", n, got, want)
		}
	}
}

// P1.1: numbers of bits that need more than 32 bits, up to the greatest number of bytes that is promised.
func TestLongLengths(t *testing.T) {
	for _, total := range []int{1<<29 - 1, 1 << 29, 1<<29 + 3, 1<<31 - 1} {
		padded, size := padEnd(pattern(total%blockSize), total)
		want := big.NewInt(int64(total))
		want.Lsh(want, 3)
		if got := new(big.Int).SetBytes(padded[size-8 : size]); got.Cmp(want) != 0 {
			t.Errorf("%d bytes: the padding says %v bits, want %v", total, got, want)
		}
	}
}

// R3: a nil list and an empty one are the same.
func TestNilAndEmpty(t *testing.T) {
	for _, b := range [][]byte{nil, {}, make([]byte, 0, 64), pattern(64)[:0], pattern(64)[64:]} {
		if Sum(b) != other.Sum256(nil) {
			t.Errorf("Sum of no bytes (nil: %v, capacity %d): %x", b == nil, cap(b), Sum(b))
		}
	}
}

// P1.2: each byte matters.
func TestOneByteDiffers(t *testing.T) {
	for _, n := range []int{1, 55, 56, 64, 119, 120, 200, 320} {
		b := pattern(n)
		seen := map[[32]byte]int{Sum(b): -1}
		for i := range b {
			for _, flip := range []byte{1, 128} {
				c := bytes.Clone(b)
				c[i] ^= flip
				d := Sum(c)
				if at, ok := seen[d]; ok {
					t.Errorf("%d bytes: the same digest for changes at %d and %d", n, at, i)
				}
				if d != other.Sum256(c) {
					t.Errorf("%d bytes, changed at %d: %x", n, i, d)
				}
				seen[d] = i
			}
		}
	}
}

// P1.2: the number of bytes matters, also where the bytes look like padding.
func TestNumberOfBytesDiffers(t *testing.T) {
	seen := map[[32]byte]int{}
	for n := 0; n <= 300; n++ {
		d := Sum(make([]byte, n))
		if m, ok := seen[d]; ok {
			t.Errorf("the same digest for %d and %d zeros", m, n)
		}
		seen[d] = n
	}
	for _, n := range edges {
		b := pattern(n)
		longer := append(bytes.Clone(b), 128)
		if Sum(b) == Sum(longer) {
			t.Errorf("%d bytes: the same digest with a byte 128 behind them", n)
		}
		whole := paddedByWords(b)
		if Sum(b) == Sum(whole) {
			t.Errorf("%d bytes: the same digest as that of the padded message", n)
		}
	}
}

// P1.2: the order of the blocks matters.
func TestOrderOfBlocks(t *testing.T) {
	b := pattern(4 * blockSize)
	want := Sum(b)
	for i := range 4 {
		for j := range i {
			c := bytes.Clone(b)
			copy(c[i*blockSize:(i+1)*blockSize], b[j*blockSize:(j+1)*blockSize])
			copy(c[j*blockSize:(j+1)*blockSize], b[i*blockSize:(i+1)*blockSize])
			if Sum(c) == want {
				t.Errorf("the same digest with the blocks %d and %d exchanged", j, i)
			}
		}
	}
}

// paddedByWords pads as the chapter's words say it, one byte after the other.
func paddedByWords(b []byte) []byte {
	p := append(bytes.Clone(b), 128)
	for len(p)%64 != 56 {
		p = append(p, 0)
	}
	bits := uint64(len(b)) * 8
	for i := 7; i >= 0; i-- {
		p = append(p, byte(bits>>(8*i)))
	}
	return p
}

// P1.2: the digest is what the blocks of the padded message lead to.
func TestBlocksOfPaddedMessage(t *testing.T) {
	for n := 0; n <= 300; n++ {
		b := pattern(n)
		want := paddedByWords(b)
		var got []byte
		eachBlock(b, func(block []byte) {
			if len(block) != blockSize {
				t.Fatalf("%d bytes: a block of %d bytes", n, len(block))
			}
			got = append(got, block...)
		})
		if !bytes.Equal(got, want) {
			t.Errorf("%d bytes: padded %x, want %x", n, got, want)
		}
		s := firstState()
		for ; len(want) > 0; want = want[blockSize:] {
			s.process(want[:blockSize])
		}
		if s.digest() != Sum(b) {
			t.Errorf("%d bytes: %x, but its blocks lead to %x", n, Sum(b), s.digest())
		}
	}
}

// R3: the argument is not changed, nor is what lies around it; and none of it matters.
func TestArgumentUnchanged(t *testing.T) {
	for _, n := range edges {
		around := pattern(n + 200)
		before := bytes.Clone(around)
		d := Sum(around[10 : 10+n])
		if !bytes.Equal(around, before) {
			t.Errorf("%d bytes: the memory of the argument was changed", n)
		}
		if d != other.Sum256(before[10:10+n]) {
			t.Errorf("%d bytes: what lies around the argument matters", n)
		}
	}
}

// R3: the argument is not kept.
func TestArgumentNotKept(t *testing.T) {
	b := pattern(130)
	first := Sum(b)
	for i := range b {
		b[i] = 0
	}
	Sum(b)
	if Sum(pattern(130)) != first {
		t.Error("a later change of an argument shows in another call")
	}
}

// R4: calls don't influence one another.
func TestCallsAtOnce(t *testing.T) {
	var wait sync.WaitGroup
	got := make([][32]byte, 64)
	for i := range got {
		wait.Go(func() { got[i] = Sum(pattern(i * 9)) })
	}
	wait.Wait()
	for i := range got {
		if got[i] != other.Sum256(pattern(i*9)) {
			t.Errorf("%d bytes: %x", i*9, got[i])
		}
	}
}

func firstPrimes(n int) []int64 {
	var out []int64
	for p := int64(2); len(out) < n; p++ {
		if big.NewInt(p).ProbablyPrime(0) {
			out = append(out, p)
		}
	}
	return out
}

// fraction returns the first 32 bits of the fractional part of the root of p of that degree.
func fraction(p int64, degree uint) uint32 {
	scaled := new(big.Int).Lsh(big.NewInt(p), 32*degree)
	low, high := big.NewInt(0), new(big.Int).Lsh(big.NewInt(p), 32)
	for low.Cmp(high) < 0 {
		mid := new(big.Int).Add(low, high)
		mid.Add(mid, big.NewInt(1)).Rsh(mid, 1)
		if new(big.Int).Exp(mid, big.NewInt(int64(degree)), nil).Cmp(scaled) <= 0 {
			low = mid
		} else {
			high = mid.Sub(mid, big.NewInt(1))
		}
	}
	return uint32(low.Uint64())
}

// The constants are those that the chapter derives from the primes.
func TestConstants(t *testing.T) {
	for i, p := range firstPrimes(64) {
		if got, want := cubeRoots[i], fraction(p, 3); got != want {
			t.Errorf("c(%d): %08x, want %08x", i, got, want)
		}
	}
	s := firstState()
	for i, p := range firstPrimes(8) {
		if got, want := s[i], fraction(p, 2); got != want {
			t.Errorf("r(%d): %08x, want %08x", i, got, want)
		}
	}
}
