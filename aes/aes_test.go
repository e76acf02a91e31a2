package aes

import (
	library "crypto/aes"
	"encoding/hex"
	"math/bits"
	"sync"
	"testing"
)

type bytes16 = [16]byte

// bytesOf reads 16 bytes from their hexadecimal form.
func bytesOf(t *testing.T, text string) bytes16 {
	t.Helper()
	b, err := hex.DecodeString(text)
	if err != nil || len(b) != 16 {
		t.Fatalf("%q is not the form of 16 bytes", text)
	}
	return bytes16(b)
}

// pattern returns 16 bytes without much order, and others for another seed.
func pattern(seed int) bytes16 {
	var b bytes16
	for i := range b {
		b[i] = byte(i*i*7 + i*(2*seed+1) + seed*31 + seed>>3)
	}
	return b
}

func filled(x byte) bytes16 {
	var b bytes16
	for i := range b {
		b[i] = x
	}
	return b
}

// libraryBlock is what the library of the language encrypts the block to.
func libraryBlock(key, block bytes16) bytes16 {
	c, err := library.NewCipher(key[:])
	if err != nil {
		panic(err)
	}
	var out bytes16
	c.Encrypt(out[:], block[:])
	return out
}

// restored is the block that the library of the language decrypts to.
func restored(key, block bytes16) bytes16 {
	c, err := library.NewCipher(key[:])
	if err != nil {
		panic(err)
	}
	var out bytes16
	c.Decrypt(out[:], block[:])
	return out
}

// timesByWords multiplies as polynomials over two elements, and then takes the rest modulo 11B.
func timesByWords(a, b byte) byte {
	product := 0
	for i := range 8 {
		if b>>i&1 == 1 {
			product ^= int(a) << i
		}
	}
	for i := 14; i >= 8; i-- {
		if product>>i&1 == 1 {
			product ^= 0x11b << (i - 8)
		}
	}
	return byte(product)
}

// substitutedByWords looks for the inverse among all bytes.
func substitutedByWords(x byte) byte {
	b := byte(0)
	for y := range 256 {
		if timesByWords(x, byte(y)) == 1 {
			b = byte(y)
		}
	}
	return b ^ bits.RotateLeft8(b, 1) ^ bits.RotateLeft8(b, 2) ^ bits.RotateLeft8(b, 3) ^ bits.RotateLeft8(b, 4) ^ 0x63
}

func substitutionByWords() [256]byte {
	var out [256]byte
	for x := range out {
		out[x] = substitutedByWords(byte(x))
	}
	return out
}

// keysByWords computes the 44 words of the round keys as the chapter's words say it.
func keysByWords(key bytes16, table [256]byte) [44][4]byte {
	var words [44][4]byte
	for i := range words {
		if i < 4 {
			words[i] = [4]byte(key[4*i:])
			continue
		}
		t := words[i-1]
		if i%4 == 0 {
			t = [4]byte{table[t[1]], table[t[2]], table[t[3]], table[t[0]]}
			mark := byte(1)
			for range i/4 - 1 {
				mark = timesByWords(mark, 2)
			}
			t[0] ^= mark
		}
		for j := range t {
			words[i][j] = words[i-4][j] ^ t[j]
		}
	}
	return words
}

// encryptedByWords does what the chapter's words say, on a grid of rows and columns.
func encryptedByWords(key, block bytes16, table [256]byte) bytes16 {
	words := keysByWords(key, table)
	var grid [4][4]byte
	for i, b := range block {
		grid[i%4][i/4] = b ^ words[i/4][i%4]
	}
	for round := 1; round <= 10; round++ {
		var next [4][4]byte
		for row := range 4 {
			for column := range 4 {
				next[row][column] = table[grid[row][(column+row)%4]]
			}
		}
		if round != 10 {
			next = mixedByWords(next)
		}
		for row := range 4 {
			for column := range 4 {
				grid[row][column] = next[row][column] ^ words[4*round+column][row]
			}
		}
	}
	var out bytes16
	for i := range out {
		out[i] = grid[i%4][i/4]
	}
	return out
}

func mixedByWords(grid [4][4]byte) [4][4]byte {
	factors := [4][4]byte{{2, 3, 1, 1}, {1, 2, 3, 1}, {1, 1, 2, 3}, {3, 1, 1, 2}}
	var out [4][4]byte
	for column := range 4 {
		for row := range 4 {
			for i := range 4 {
				out[row][column] ^= timesByWords(factors[row][i], grid[i][column])
			}
		}
	}
	return out
}

// P3.1: the example of the chapter, and other published blocks.
func TestKnownBlocks(t *testing.T) {
	for _, c := range []struct{ key, block, want string }{
		{"000102030405060708090a0b0c0d0e0f", "00112233445566778899aabbccddeeff", "69c4e0d86a7b0430d8cdb78070b4c55a"},
		{"2b7e151628aed2a6abf7158809cf4f3c", "3243f6a8885a308d313198a2e0370734", "3925841d02dc09fbdc118597196a0b32"},
		{"2b7e151628aed2a6abf7158809cf4f3c", "6bc1bee22e409f96e93d7e117393172a", "3ad77bb40d7a3660a89ecaf32466ef97"},
		{"2b7e151628aed2a6abf7158809cf4f3c", "ae2d8a571e03ac9c9eb76fac45af8e51", "f5d3d58503b9699de785895a96fdbaaf"},
		{"2b7e151628aed2a6abf7158809cf4f3c", "30c81c46a35ce411e5fbc1191a0a52ef", "43b1cd7f598ece23881b00e3ed030688"},
		{"2b7e151628aed2a6abf7158809cf4f3c", "f69f2445df4f9b17ad2b417be66c3710", "7b0c785e27e8ad3f8223207104725dd4"},
		{"00000000000000000000000000000000", "00000000000000000000000000000000", "66e94bd4ef8a2c3b884cfa59ca342b2e"},
		{"00000000000000000000000000000000", "80000000000000000000000000000000", "3ad78e726c1ec02b7ebfe92b23d9ec34"},
		{"80000000000000000000000000000000", "00000000000000000000000000000000", "0edd33d3c621e546455bd8ba1418bec8"},
		{"00000000000000000000000000000000", "ffffffffffffffffffffffffffffffff", "3f5b8cc9ea855a0afa7347d23e8d664e"},
		{"ffffffffffffffffffffffffffffffff", "00000000000000000000000000000000", "a1f6258c877d5fcd8964484538bfc92c"},
	} {
		if got, want := Encrypt(bytesOf(t, c.key), bytesOf(t, c.block)), bytesOf(t, c.want); got != want {
			t.Errorf("Encrypt(%s, %s): got %x, want %x", c.key, c.block, got, want)
		}
	}
}

// P3.1: zeros alone, FF alone and other bytes alone, as the key and as the block.
func TestPlainBytes(t *testing.T) {
	table := substitutionByWords()
	for _, x := range []byte{0, 1, 0x1b, 0x52, 0x63, 127, 128, 254, 255} {
		for _, y := range []byte{0, 1, 0x1b, 0x52, 0x63, 127, 128, 254, 255} {
			got := Encrypt(filled(x), filled(y))
			if want := libraryBlock(filled(x), filled(y)); got != want {
				t.Errorf("keys of %x alone, blocks of %x alone: got %x, want %x", x, y, got, want)
			}
			if want := encryptedByWords(filled(x), filled(y), table); got != want {
				t.Errorf("keys of %x alone, blocks of %x alone: got %x, but the words lead to %x", x, y, got, want)
			}
		}
	}
}

// P3.1: ordinary keys and blocks, each result being the next block and, now and then, the next key.
func TestOrdinaryKeysAndBlocks(t *testing.T) {
	table := substitutionByWords()
	for seed := range 50 {
		key, block := pattern(seed), pattern(seed+100)
		for n := range 40 {
			got := Encrypt(key, block)
			if want := libraryBlock(key, block); got != want {
				t.Fatalf("key %x, block %x: got %x, want %x", key, block, got, want)
			}
			if want := encryptedByWords(key, block, table); got != want {
				t.Fatalf("key %x, block %x: got %x, but the words lead to %x", key, block, got, want)
			}
			if n%4 == 3 {
				key = block
			}
			block = got
		}
	}
}

// P3.1: keys that differ in one bit, and blocks that do.
func TestOneBitDiffers(t *testing.T) {
	for _, base := range []bytes16{{}, filled(255), pattern(3)} {
		other := pattern(4)
		seenKeys := map[bytes16]int{Encrypt(base, other): -1}
		seenBlocks := map[bytes16]int{Encrypt(other, base): -1}
		for bit := range 128 {
			near := base
			near[bit/8] ^= 128 >> (bit % 8)
			byKey, byBlock := Encrypt(near, other), Encrypt(other, near)
			if byKey != libraryBlock(near, other) {
				t.Errorf("key %x, block %x: %x", near, other, byKey)
			}
			if byBlock != libraryBlock(other, near) {
				t.Errorf("key %x, block %x: %x", other, near, byBlock)
			}
			if old, ok := seenKeys[byKey]; ok {
				t.Errorf("the same result with the bits %d and %d of the key changed", old, bit)
			}
			if old, ok := seenBlocks[byBlock]; ok {
				t.Errorf("the same result with the bits %d and %d of the block changed", old, bit)
			}
			seenKeys[byKey], seenBlocks[byBlock] = bit, bit
		}
	}
}

// P3.1: key and block are not the same thing.
func TestKeyAndBlockExchanged(t *testing.T) {
	for seed := range 20 {
		key, block := pattern(seed), pattern(seed+1)
		if Encrypt(key, block) == Encrypt(block, key) {
			t.Errorf("the same result for %x and %x exchanged", key, block)
		}
		if got, want := Encrypt(key, key), libraryBlock(key, key); got != want {
			t.Errorf("%x as key and block: got %x, want %x", key, got, want)
		}
	}
}

// P3.1: the substitution of every byte, as the chapter's words give it.
func TestSubstitutionOfEveryByte(t *testing.T) {
	s := newSubstitution()
	var seen [256]bool
	for x, got := range s {
		if want := substitutedByWords(byte(x)); got != want {
			t.Errorf("the substitution of %02x: got %02x, want %02x", x, got, want)
		}
		if seen[got] {
			t.Errorf("%02x is the substitution of two bytes", got)
		}
		seen[got] = true
	}
	for x, want := range map[byte]byte{0: 0x63, 1: 0x7c, 2: 0x77, 0x10: 0xca, 0x53: 0xed, 0x80: 0xcd, 0xfe: 0xbb, 0xff: 0x16} {
		if s[x] != want {
			t.Errorf("the substitution of %02x: got %02x, published is %02x", x, s[x], want)
		}
	}
}

// P3.1: every byte is substituted so by Encrypt itself, at each place of the block.
func TestEveryByteAtEachPlace(t *testing.T) {
	table := substitutionByWords()
	key := pattern(9)
	for place := range 16 {
		for x := range 256 {
			block := pattern(10)
			block[place] = byte(x)
			if got, want := Encrypt(key, block), encryptedByWords(key, block, table); got != want {
				t.Fatalf("block %x: got %x, want %x", block, got, want)
			}
			if got, want := Encrypt(block, key), encryptedByWords(block, key, table); got != want {
				t.Fatalf("key %x: got %x, want %x", block, got, want)
			}
		}
	}
}

// P3.1: the products by 2 and by 3 of every byte.
func TestProducts(t *testing.T) {
	for x := range 256 {
		b := byte(x)
		if double(b) != timesByWords(2, b) || triple(b) != timesByWords(3, b) {
			t.Errorf("%02x: 2 times is %02x, 3 times is %02x", b, double(b), triple(b))
		}
	}
}

// P3.1: the round keys, against published words and the chapter's words.
func TestRoundKeys(t *testing.T) {
	s, table := newSubstitution(), substitutionByWords()
	words := roundKeys(bytesOf(t, "2b7e151628aed2a6abf7158809cf4f3c"), &s)
	for i, want := range map[int]string{0: "2b7e1516", 3: "09cf4f3c", 4: "a0fafe17", 5: "88542cb1", 8: "f2c295f2", 12: "3d80477d", 36: "ac7766f3", 40: "d014f9a8", 43: "b6630ca6"} {
		if got := hex.EncodeToString(words[i][:]); got != want {
			t.Errorf("word %d: got %s, want %s", i, got, want)
		}
	}
	for _, key := range []bytes16{{}, filled(255), pattern(1), pattern(2), pattern(77)} {
		got, want := roundKeys(key, &s), keysByWords(key, table)
		for i := range want {
			if got[i] != word(want[i]) {
				t.Errorf("key %x, word %d: got %x, want %x", key, i, got[i], want[i])
			}
		}
	}
}

// P3.2: one key and blocks that differ in one byte, at each of the 16 places.
func TestBlocksThatDifferInOneByte(t *testing.T) {
	for _, key := range []bytes16{{}, filled(255), pattern(5)} {
		for _, base := range []bytes16{{}, filled(255), pattern(6)} {
			seen := map[bytes16]bytes16{Encrypt(key, base): base}
			for place := range 16 {
				for flip := 1; flip < 256; flip++ {
					block := base
					block[place] ^= byte(flip)
					got := Encrypt(key, block)
					if old, ok := seen[got]; ok {
						t.Fatalf("key %x: %x for both %x and %x", key, got, old, block)
					}
					seen[got] = block
				}
			}
		}
	}
}

// P3.2: the key and the result tell the block, so that no other block has this result.
func TestResultTellsBlock(t *testing.T) {
	for seed := range 300 {
		key, block := pattern(seed), pattern(3*seed+1)
		if got := restored(key, Encrypt(key, block)); got != block {
			t.Errorf("key %x: %x is restored as %x", key, block, got)
		}
	}
}

// P3.2: a block that is encrypted twice: the same again, and then its result.
func TestEncryptedTwice(t *testing.T) {
	for seed := range 100 {
		key, block := pattern(seed), pattern(seed+40)
		once := Encrypt(key, block)
		if Encrypt(key, block) != once {
			t.Errorf("key %x, block %x: another result the second time", key, block)
		}
		twice := Encrypt(key, once)
		if twice == once || twice != libraryBlock(key, libraryBlock(key, block)) {
			t.Errorf("key %x, block %x: the result is encrypted to %x", key, block, twice)
		}
	}
}

// R3: the key and the block are not changed; what later calls are given does not matter to a result.
func TestArgumentsUnchanged(t *testing.T) {
	for seed := range 20 {
		key, block := pattern(seed), pattern(seed+7)
		first := Encrypt(key, block)
		if key != pattern(seed) || block != pattern(seed+7) {
			t.Errorf("key %x, block %x after the call", key, block)
		}
		kept := first
		key, block = filled(1), filled(2)
		Encrypt(key, block)
		if first != kept {
			t.Errorf("a later call changed a result from %x to %x", kept, first)
		}
		if again := Encrypt(pattern(seed), pattern(seed+7)); again != first {
			t.Errorf("got %x first, and %x after other calls", first, again)
		}
	}
}

// R3: one variable may be the key, the block and the place of the result.
func TestSharedVariable(t *testing.T) {
	b := pattern(8)
	want := libraryBlock(b, b)
	b = Encrypt(b, b)
	if b != want {
		t.Errorf("got %x, want %x", b, want)
	}
}

// R4: calls at the same time don't influence one another.
func TestCallsAtOnce(t *testing.T) {
	var wait sync.WaitGroup
	got := make([]bytes16, 64)
	for i := range got {
		wait.Go(func() { got[i] = Encrypt(pattern(i), pattern(2*i)) })
	}
	wait.Wait()
	for i := range got {
		if want := libraryBlock(pattern(i), pattern(2*i)); got[i] != want {
			t.Errorf("call %d: got %x, want %x", i, got[i], want)
		}
	}
}
