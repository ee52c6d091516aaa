package hash

import (
	"math/big"
	"testing"
)

// firstPrimes: the first n primes.
func firstPrimes(n int) []int64 {
	var ps []int64
	for k := int64(2); len(ps) < n; k++ {
		if big.NewInt(k).ProbablyPrime(20) {
			ps = append(ps, k)
		}
	}
	return ps
}

// isRoot: are the word's bits the first 32 behind the point of the prime's root? The chapter's inequality, to the letter.
func isRoot(word uint32, prime, power int64) bool {
	raised := func(x *big.Int) *big.Int { return new(big.Int).Exp(x, big.NewInt(power), nil) }
	whole := int64(0)
	for raised(big.NewInt(whole+1)).Cmp(big.NewInt(prime)) <= 0 {
		whole++
	}
	low := big.NewInt(whole<<32 + int64(word))
	high := new(big.Int).Add(low, big.NewInt(1))
	scaled := new(big.Int).Lsh(big.NewInt(prime), uint(32*power))
	return raised(low).Cmp(scaled) <= 0 && scaled.Cmp(raised(high)) < 0
}

// P1.1: the constants are those of the definition.
func TestWordsAreRoots(t *testing.T) {
	for i, p := range firstPrimes(len(startWords)) {
		if !isRoot(startWords[i], p, 2) {
			t.Errorf("H[%d] is %08x: not of the square root of %d", i, startWords[i], p)
		}
	}
	for i, p := range firstPrimes(len(stepWords)) {
		if !isRoot(stepWords[i], p, 3) {
			t.Errorf("K[%d] is %08x: not of the cube root of %d", i, stepWords[i], p)
		}
	}
	if isRoot(startWords[0]+1, 2, 2) || isRoot(stepWords[0]-1, 2, 3) {
		t.Error("isRoot takes a word that is one off")
	}
}
