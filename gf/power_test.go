package gf

import (
	"math"
	"math/big"
	"testing"
)

// exponents are powers at which a remainder or a turned sign is most easily wrong.
func exponents(w int) []int {
	units := 1<<w - 1
	list := []int{0, 1, 2, 3, 7, 8, 15, 16, 254, 255, 256, 65534, 65535, 65536, math.MaxInt32, 1 << 32, math.MaxInt - 1, math.MaxInt}
	for _, n := range []int{1, 2, 3, 1000, math.MaxInt / units} {
		list = append(list, n*units-1, n*units)
	}
	return append(list, units+1, units*units+1)
}

// slowPow multiplies by squares, for which no exponent is too large.
func slowPow(k kind, a, n int) int {
	power := 1
	for i := 62; i >= 0; i-- {
		power = slowMul(k, power, power)
		if n>>i&1 == 1 {
			power = slowMul(k, power, a)
		}
	}
	return power
}

// slowExp takes 2 to what is left of n, by numbers that have no lowest one.
func slowExp(k kind, n int) int {
	rest := new(big.Int).Mod(big.NewInt(int64(n)), big.NewInt(int64(1)<<k.w-1))
	return slowPow(k, 2, int(rest.Int64()))
}

func TestPowIsSoManyFactors(t *testing.T) {
	for _, k := range kinds() {
		f := made(t, k)
		for _, a := range some(k) {
			power := 1
			for n := range 600 {
				if got := f.Pow(a, n); got != power {
					t.Fatalf("%#x: Pow(%d, %d) = %d, not %d", k.p, a, n, got, power)
				}
				power = slowMul(k, power, a)
			}
		}
	}
}

func TestPowOfLargeExponents(t *testing.T) {
	for _, k := range kinds() {
		f := made(t, k)
		for _, a := range some(k) {
			for _, n := range exponents(k.w) {
				if got := f.Pow(a, n); got != slowPow(k, a, n) {
					t.Fatalf("%#x: Pow(%d, %d) = %d, not %d", k.p, a, n, got, slowPow(k, a, n))
				}
			}
		}
	}
}

func TestPowAtItsEdges(t *testing.T) {
	for _, k := range kinds() {
		f := made(t, k)
		for _, a := range some(k) {
			if n := f.Pow(a, 0); n != 1 {
				t.Errorf("%#x: Pow(%d, 0) = %d", k.p, a, n)
			}
			for _, n := range []int{-1, -2, -255, -256, -65535, math.MinInt + 1, math.MinInt} {
				if got := f.Pow(a, n); got != 0 {
					t.Errorf("%#x: Pow(%d, %d) = %d", k.p, a, n, got)
				}
			}
		}
		for _, n := range []int{1, 2, f.Size() - 1, 2 * (f.Size() - 1), math.MaxInt} {
			if got := f.Pow(0, n); got != 0 {
				t.Errorf("%#x: Pow(0, %d) = %d", k.p, n, got)
			}
		}
		// What is no number gives 0, even to the power of 0.
		for _, a := range strangers(k.w) {
			if n := f.Pow(a, 0); n != 0 {
				t.Errorf("%#x: Pow(%d, 0) = %d", k.p, a, n)
			}
		}
	}
}

func TestExpStepByStep(t *testing.T) {
	for _, k := range kinds() {
		f := made(t, k)
		half, ok := f.Inv(2)
		if !ok {
			t.Fatalf("%#x: 2 has no inverse", k.p)
		}
		up, down := 1, 1
		for n := range 2*f.Size() + 5 {
			if got := f.Exp(n); got != up {
				t.Fatalf("%#x: Exp(%d) = %d, not %d", k.p, n, got, up)
			}
			if got := f.Exp(-n); got != down {
				t.Fatalf("%#x: Exp(%d) = %d, not %d", k.p, -n, got, down)
			}
			up, down = slowMul(k, up, 2), slowMul(k, down, half)
		}
	}
}

func TestExpFarAway(t *testing.T) {
	for _, k := range kinds() {
		f := made(t, k)
		for _, n := range exponents(k.w) {
			// The lowest number's sign can't be turned, so that -n - 1 is asked too.
			for _, n := range []int{n, -n, -n - 1} {
				if got := f.Exp(n); got != slowExp(k, n) {
					t.Errorf("%#x: Exp(%d) = %d, not %d", k.p, n, got, slowExp(k, n))
				}
			}
		}
	}
}

func TestExpBelowZeroIsTheInversesPower(t *testing.T) {
	for _, k := range kinds() {
		f := made(t, k)
		half, _ := f.Inv(2)
		for _, n := range exponents(k.w) {
			if f.Exp(n) != f.Pow(2, n) || f.Exp(-n) != f.Pow(half, n) {
				t.Errorf("%#x: Exp(%d) = %d, Exp(%d) = %d", k.p, n, f.Exp(n), -n, f.Exp(-n))
			}
		}
	}
}

func TestLogOfAllNumbers(t *testing.T) {
	for _, k := range kinds() {
		f := made(t, k)
		if n, ok := f.Log(0); n != 0 || ok {
			t.Errorf("%#x: Log(0) = %d, %v", k.p, n, ok)
		}
		power := 1
		for want := range f.Size() - 1 {
			if n, ok := f.Log(power); n != want || !ok {
				t.Fatalf("%#x: Log(%d) = %d, %v, not %d", k.p, power, n, ok, want)
			}
			power = slowMul(k, power, 2)
		}
		if power != 1 {
			t.Errorf("%#x: the powers do not come round", k.p)
		}
	}
}
