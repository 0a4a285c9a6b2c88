// Package poly is layer 1, polynomials over GF(2): see shared/doc/01-poly.md.
// Bit i of a number says whether the polynomial has x to the power of i.
package poly

import "math/bits"

const (
	x      = 2  // the polynomial x
	maxDeg = 16 // the highest degree that Irreducible takes
)

// bitsOf answers a closure that tells whether p has the bit at a place.
func bitsOf(p uint64) func(place int) bool {
	return func(place int) bool { return p>>place&1 == 1 }
}

// Deg is the place of p's highest bit, -1 if it has none.
func Deg(p uint64) int { return bits.Len64(p) - 1 }

// Mul is the product of a and b.
func Mul(a, b uint32) uint64 {
	has := bitsOf(uint64(b))
	product := uint64(0)
	for i := range Deg(uint64(b)) + 1 {
		if has(i) {
			product ^= uint64(a) << i
		}
	}
	return product
}

// Mod is what is left of a, divided by p; 0 if p is 0.
func Mod(a uint64, p uint32) uint32 {
	if p == 0 {
		return 0
	}
	rest := a
	// Not bitsOf: each step changes rest, and the next one asks what is left then.
	has := func(place int) bool { return rest>>place&1 == 1 }
	top, low := Deg(a), Deg(uint64(p))
	for i := range top - low + 1 {
		if place := top - i; has(place) {
			rest ^= uint64(p) << (place - low)
		}
	}
	return uint32(rest)
}

// MulMod is what is left of the product of a and b, divided by p; 0 if p is 0.
func MulMod(a, b, p uint32) uint32 { return Mod(Mul(a, b), p) }

// Irreducible tells whether p has a degree from 1 to 16, and is no product of two of lower degrees, both at least 1.
func Irreducible(p uint32) bool {
	deg := Deg(uint64(p))
	if deg < 1 || deg > maxDeg {
		return false
	}
	// Of two factors one has at most half the degree: higher ones need not be tried.
	for factor := range uint32(1) << (deg/2 + 1) {
		if Deg(uint64(factor)) >= 1 && Mod(uint64(p), factor) == 0 {
			return false
		}
	}
	return true
}

// Primitive tells whether p is irreducible, and the powers of x modulo p are all numbers other than 0 of lower degrees.
func Primitive(p uint32) bool {
	if !Irreducible(p) {
		return false
	}
	// Modulo what is irreducible these numbers are a group, so that x has all of them
	// as its powers unless a smaller exponent, which divides their count, gives 1 already.
	// Only modulo x itself is x outside the group.
	count := uint32(1)<<Deg(uint64(p)) - 1
	if powerOfX(count, p) != 1 {
		return false
	}
	for _, prime := range primesOf(count) {
		if powerOfX(count/prime, p) == 1 {
			return false
		}
	}
	return true
}

// powerOfX is x to the power of n modulo p.
func powerOfX(n, p uint32) uint32 {
	has := bitsOf(uint64(n))
	top := Deg(uint64(n))
	power := Mod(1, p)
	for i := range top + 1 {
		power = MulMod(power, power, p)
		if has(top - i) {
			power = MulMod(power, x, p)
		}
	}
	return power
}

// primesOf are the primes that divide n, each once; none of 0.
func primesOf(n uint32) []uint32 {
	var primes []uint32
	for q := uint32(2); q <= n; q++ {
		if n%q != 0 {
			continue
		}
		primes = append(primes, q)
		for n%q == 0 {
			n /= q
		}
	}
	return primes
}
