// Package sha256 computes SHA-256.
package sha256

const (
	wordSize   = 4
	blockSize  = 64
	lengthSize = 8 // bytes at the very end of the padded message
	blockWords = blockSize / wordSize
	rounds     = 64
)

// cubeRoots holds the first 32 bits of the fractional parts of the cube roots of the first 64 primes.
var cubeRoots = [rounds]uint32{
	0x428a2f98, 0x71374491, 0xb5c0fbcf, 0xe9b5dba5, 0x3956c25b, 0x59f111f1, 0x923f82a4, 0xab1c5ed5,
	0xd807aa98, 0x12835b01, 0x243185be, 0x550c7dc3, 0x72be5d74, 0x80deb1fe, 0x9bdc06a7, 0xc19bf174,
	0xe49b69c1, 0xefbe4786, 0x0fc19dc6, 0x240ca1cc, 0x2de92c6f, 0x4a7484aa, 0x5cb0a9dc, 0x76f988da,
	0x983e5152, 0xa831c66d, 0xb00327c8, 0xbf597fc7, 0xc6e00bf3, 0xd5a79147, 0x06ca6351, 0x14292967,
	0x27b70a85, 0x2e1b2138, 0x4d2c6dfc, 0x53380d13, 0x650a7354, 0x766a0abb, 0x81c2c92e, 0x92722c85,
	0xa2bfe8a1, 0xa81a664b, 0xc24b8b70, 0xc76c51a3, 0xd192e819, 0xd6990624, 0xf40e3585, 0x106aa070,
	0x19a4c116, 0x1e376c08, 0x2748774c, 0x34b0bcb5, 0x391c0cb3, 0x4ed8aa4a, 0x5b9cca4f, 0x682e6ff3,
	0x748f82ee, 0x78a5636f, 0x84c87814, 0x8cc70208, 0x90befffa, 0xa4506ceb, 0xbef9a3f7, 0xc67178f2,
}

// state holds the eight words that the blocks change, one block after the other.
type state [8]uint32

// Sum returns the digest of b.
func Sum(b []byte) [32]byte {
	s := firstState()
	eachBlock(b, s.process)
	return s.digest()
}

// firstState returns the first 32 bits of the fractional parts of the square roots of the first 8 primes.
func firstState() state {
	return state{
		0x6a09e667, 0xbb67ae85, 0x3c6ef372, 0xa54ff53a, 0x510e527f, 0x9b05688c, 0x1f83d9ab, 0x5be0cd19,
	}
}

// eachBlock hands over the blocks of the padded message of b, in their order.
// Only the last bytes are padded in a copy: b may be long, and belongs to the caller.
func eachBlock(b []byte, process func(block []byte)) {
	whole := len(b) - len(b)%blockSize
	for at := 0; at < whole; at += blockSize {
		process(b[at : at+blockSize])
	}
	padded, size := padEnd(b[whole:], len(b))
	for at := 0; at < size; at += blockSize {
		process(padded[at : at+blockSize])
	}
}

// padEnd pads rest, the last bytes of a message of total bytes, which don't fill a block.
// The size is that of one block, or of two where the first has no room for the length.
func padEnd(rest []byte, total int) (padded [2 * blockSize]byte, size int) {
	n := copy(padded[:], rest)
	padded[n] = 128
	size = blockSize
	if n+1+lengthSize > blockSize {
		size = 2 * blockSize
	}
	length := uint64(total) * 8
	for i := 1; i <= lengthSize; i++ {
		padded[size-i] = byte(length)
		length >>= 8
	}
	return padded, size
}

// process changes the state by one block.
func (s *state) process(block []byte) {
	m := schedule(block)
	a, b, c, d, e, f, g, h := s[0], s[1], s[2], s[3], s[4], s[5], s[6], s[7]
	for i := 0; i < rounds; i++ {
		one := h + (turn(e, 6) ^ turn(e, 11) ^ turn(e, 25)) + (e&f ^ ^e&g) + cubeRoots[i] + m[i]
		two := (turn(a, 2) ^ turn(a, 13) ^ turn(a, 22)) + (a&b ^ a&c ^ b&c)
		h, g, f, e, d, c, b, a = g, f, e, d+one, c, b, a, one+two
	}
	s[0] += a
	s[1] += b
	s[2] += c
	s[3] += d
	s[4] += e
	s[5] += f
	s[6] += g
	s[7] += h
}

// schedule returns the words of a block, and those that follow from them for the later rounds.
func schedule(block []byte) [rounds]uint32 {
	var m [rounds]uint32
	for i := 0; i < blockWords; i++ {
		m[i] = wordAt(block, i*wordSize)
	}
	for i := blockWords; i < rounds; i++ {
		p, q := m[i-15], m[i-2]
		m[i] = m[i-16] + m[i-7] +
			(turn(p, 7) ^ turn(p, 18) ^ drop(p, 3)) +
			(turn(q, 17) ^ turn(q, 19) ^ drop(q, 10))
	}
	return m
}

// digest returns the words as bytes.
func (s *state) digest() [32]byte {
	var out [32]byte
	for i, word := range s {
		putWord(out[i*wordSize:], word)
	}
	return out
}

func wordAt(b []byte, at int) uint32 {
	return uint32(b[at])<<24 | uint32(b[at+1])<<16 | uint32(b[at+2])<<8 | uint32(b[at+3])
}

func putWord(b []byte, x uint32) {
	b[0] = byte(x >> 24)
	b[1] = byte(x >> 16)
	b[2] = byte(x >> 8)
	b[3] = byte(x)
}

func turn(x uint32, n uint) uint32 {
	return x>>n | x<<(32-n)
}

func drop(x uint32, n uint) uint32 {
	return x >> n
}
