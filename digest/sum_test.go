package digest

import (
	"math/big"
	"testing"
)

// primes are the first n of them.
func primes(n int) []int64 {
	var found []int64
	for p := int64(2); len(found) < n; p++ {
		if big.NewInt(p).ProbablyPrime(0) {
			found = append(found, p)
		}
	}
	return found
}

// root is the whole part of the k-th root of n.
func root(n *big.Int, k int64) *big.Int {
	low, high := big.NewInt(0), new(big.Int).Set(n)
	for low.Cmp(high) < 0 {
		mid := new(big.Int).Add(low, high)
		mid.Add(mid, big.NewInt(1)).Rsh(mid, 1)
		if new(big.Int).Exp(mid, big.NewInt(k), nil).Cmp(n) <= 0 {
			low = mid
		} else {
			high = mid.Sub(mid, big.NewInt(1))
		}
	}
	return low
}

// behindPoint is the first 32 bits behind the point of a prime's k-th root.
func behindPoint(prime, k int64) uint32 {
	shifted := new(big.Int).Lsh(big.NewInt(prime), uint(32*k))
	return uint32(root(shifted, k).Uint64())
}

// TestConstants: each is what the document says that it is.
func TestConstants(t *testing.T) { // P2.1
	of := primes(rounds)
	if of[7] != 19 || of[63] != 311 {
		t.Fatal(of)
	}
	for i, got := range squares {
		if want := behindPoint(of[i], 2); got != want {
			t.Errorf("squares[%d] = %08x, want %08x", i, got, want)
		}
	}
	for i, got := range cubes {
		if want := behindPoint(of[i], 3); got != want {
			t.Errorf("cubes[%d] = %08x, want %08x", i, got, want)
		}
	}
}

// TestConstantsStay: no sum changes what the next one begins with.
func TestConstantsStay(t *testing.T) { // R1
	begins, adds := squares, cubes
	for _, s := range []string{"", "abc", string(make([]byte, 200))} {
		Fits(Of(s), s)
		Parse(Sum(s, s))
	}
	if squares != begins || cubes != adds {
		t.Error("a sum changed the constants")
	}
}

func TestTurned(t *testing.T) { // P2.1
	for _, c := range []struct {
		x    uint32
		n    uint
		want uint32
	}{
		{0x00000001, 1, 0x80000000},
		{0x12345678, 4, 0x81234567},
		{0x12345678, 16, 0x56781234},
		{0x12345678, 31, 0x2468acf0},
		{0xffffffff, 7, 0xffffffff},
		{0, 13, 0},
	} {
		if got := turned(c.x, c.n); got != c.want {
			t.Errorf("turned(%08x, %d) = %08x, want %08x", c.x, c.n, got, c.want)
		}
	}
}

func TestWide(t *testing.T) { // P2.1
	for _, c := range []struct {
		n    uint64
		size int
		want string
	}{
		{0, 0, ""},
		{258, 2, "\x01\x02"},
		{0x01020304, 4, "\x01\x02\x03\x04"},
		{0x0123456789abcdef, 8, "\x01\x23\x45\x67\x89\xab\xcd\xef"},
		// from 2^29 bytes on there are more bits than 4 bytes tell
		{8 * (1<<31 - 1), 8, "\x00\x00\x00\x03\xff\xff\xff\xf8"},
	} {
		if got := wide(c.n, c.size); got != c.want {
			t.Errorf("wide(%d, %d) = %q, want %q", c.n, c.size, got, c.want)
		}
	}
}

// TestCountWithMuchBehind: how many bytes came is told in all 8 bytes, though no test has the time for so many.
func TestCountWithMuchBehind(t *testing.T) { // P2.1
	sums := make(map[string]uint64)
	for _, came := range []uint64{0, 1 << 29, 1 << 32, 1 << 40, 1 << 60} {
		a := adder{words: squares, came: came}
		s := a.sum()
		if was, found := sums[s]; found {
			t.Errorf("%d bytes and %d bytes have one sum", was, came)
		}
		sums[s] = came
	}
	if a := (adder{words: squares}); a.sum() != Sum() {
		t.Error("the sum of nothing")
	}
}
