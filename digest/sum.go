package digest

const (
	blockSize  = 64 // bytes
	countSize  = 8  // bytes of how many bits there were
	wordSize   = 4  // bytes
	stateWords = 8
	blockWords = blockSize / wordSize
	sumSize    = stateWords * wordSize
	rounds     = 64
)

// squares are the first 32 bits behind the point of the square roots of the primes 2 to 19.
var squares = [stateWords]uint32{
	0x6a09e667, 0xbb67ae85, 0x3c6ef372, 0xa54ff53a, 0x510e527f, 0x9b05688c, 0x1f83d9ab, 0x5be0cd19,
}

// cubes are those of the cube roots of the primes 2 to 311.
var cubes = [rounds]uint32{
	0x428a2f98, 0x71374491, 0xb5c0fbcf, 0xe9b5dba5, 0x3956c25b, 0x59f111f1, 0x923f82a4, 0xab1c5ed5,
	0xd807aa98, 0x12835b01, 0x243185be, 0x550c7dc3, 0x72be5d74, 0x80deb1fe, 0x9bdc06a7, 0xc19bf174,
	0xe49b69c1, 0xefbe4786, 0x0fc19dc6, 0x240ca1cc, 0x2de92c6f, 0x4a7484aa, 0x5cb0a9dc, 0x76f988da,
	0x983e5152, 0xa831c66d, 0xb00327c8, 0xbf597fc7, 0xc6e00bf3, 0xd5a79147, 0x06ca6351, 0x14292967,
	0x27b70a85, 0x2e1b2138, 0x4d2c6dfc, 0x53380d13, 0x650a7354, 0x766a0abb, 0x81c2c92e, 0x92722c85,
	0xa2bfe8a1, 0xa81a664b, 0xc24b8b70, 0xc76c51a3, 0xd192e819, 0xd6990624, 0xf40e3585, 0x106aa070,
	0x19a4c116, 0x1e376c08, 0x2748774c, 0x34b0bcb5, 0x391c0cb3, 0x4ed8aa4a, 0x5b9cca4f, 0x682e6ff3,
	0x748f82ee, 0x78a5636f, 0x84c87814, 0x8cc70208, 0x90befffa, 0xa4506ceb, 0xbef9a3f7, 0xc67178f2,
}

// adder is a sum that goes on: its words behind all whole blocks, the bytes of the block that is not whole yet, and how many bytes came in all.
type adder struct {
	words [stateWords]uint32
	block [blockSize]byte
	came  uint64
}

// add takes bytes, whatever their number: where a text was cut is not to be seen in a sum.
func (a *adder) add(text string) {
	for text != "" {
		n := copy(a.block[a.came%blockSize:], text)
		a.came += uint64(n)
		if a.came%blockSize == 0 {
			a.words = mixed(a.words, spread(a.block))
		}
		text = text[n:]
	}
}

// sum fills up the last block, and is the words then.
func (a *adder) sum() string {
	// ahead of the filling, which is counted too
	count := wide(8*a.came, countSize)
	a.add("\x80")
	for a.came%blockSize != blockSize-countSize {
		a.add("\x00")
	}
	a.add(count)
	s := make([]byte, 0, sumSize)
	for _, w := range a.words {
		s = append(s, wide(uint64(w), wordSize)...)
	}
	return string(s)
}

// wide is a number in size bytes, the highest one first.
func wide(n uint64, size int) string {
	b := make([]byte, size)
	for i := range b {
		b[size-1-i] = byte(n >> (8 * i))
	}
	return string(b)
}

// spread is a block's words, and those that are made of them.
func spread(block [blockSize]byte) [rounds]uint32 {
	var words [rounds]uint32
	for t := range blockWords {
		i := t * wordSize
		words[t] = uint32(block[i])<<24 | uint32(block[i+1])<<16 | uint32(block[i+2])<<8 | uint32(block[i+3])
	}
	for t := blockWords; t < len(words); t++ {
		x, y := words[t-15], words[t-2]
		low := turned(x, 7) ^ turned(x, 18) ^ x>>3
		high := turned(y, 17) ^ turned(y, 19) ^ y>>10
		words[t] = high + words[t-7] + low + words[t-16]
	}
	return words
}

// mixed is the eight words behind a block, begin being those ahead of it.
func mixed(begin [stateWords]uint32, words [rounds]uint32) [stateWords]uint32 {
	a, b, c, d := begin[0], begin[1], begin[2], begin[3]
	e, f, g, h := begin[4], begin[5], begin[6], begin[7]
	for t := range words {
		t1 := h + turns(e, 6, 11, 25) + (e&f ^ ^e&g) + cubes[t] + words[t]
		t2 := turns(a, 2, 13, 22) + (a&b ^ a&c ^ b&c)
		h, g, f, e = g, f, e, d+t1
		d, c, b, a = c, b, a, t1+t2
	}
	behind := [stateWords]uint32{a, b, c, d, e, f, g, h}
	for i := range behind {
		behind[i] += begin[i]
	}
	return behind
}

// turns is x turned by three numbers, xored.
func turns(x uint32, i, j, k uint) uint32 {
	return turned(x, i) ^ turned(x, j) ^ turned(x, k)
}

// turned is x turned right: the lowest n bits come to be the highest ones.
func turned(x uint32, n uint) uint32 { return x>>n | x<<(32-n) }
