package crc

import (
	"hash/crc32"
	"math"
	"math/rand"
	"strings"
	"testing"
)

// numbers are a source of test inputs that is the same in each run.
func numbers() *rand.Rand { return rand.New(rand.NewSource(13)) }

// some are n bytes by chance.
func some(r *rand.Rand, n int) []byte {
	b := make([]byte, n)
	r.Read(b)
	return b
}

// edgeSums are the lowest and the highest sum, single bits, and what lies beside them.
func edgeSums() []uint32 {
	return []uint32{
		0, 1, 2, 0x7F, 0x80, 0xFF, 0x100, 0xFFFF, 0x10000, 0xFFFFFF, 0x1000000,
		0x7FFFFFFF, 0x80000000, 0x80000001, 0xEDB88320, math.MaxUint32 - 1, math.MaxUint32,
	}
}

// someSums are the edges, and n sums by chance, of all lengths.
func someSums(r *rand.Rand, n int) []uint32 {
	sums := edgeSums()
	for range n {
		sums = append(sums, r.Uint32()>>r.Intn(32))
	}
	return sums
}

// slowAdd is exclusive or, figure by figure to the base 2.
func slowAdd(a, b int64) int64 {
	sum := int64(0)
	for place := int64(1); place < 1<<32; place *= 2 {
		if a/place%2 != b/place%2 {
			sum += place
		}
	}
	return sum
}

// slowTake is n, when it took a byte, by eight steps.
func slowTake(n int64, b byte) int64 {
	n = slowAdd(n, int64(b))
	for range 8 {
		if n%2 == 0 {
			n /= 2
		} else {
			n = slowAdd(n/2, 0xEDB88320)
		}
	}
	return n
}

// slowMore is More by the chapter's words, step by step.
func slowMore(sum uint32, b []byte) uint32 {
	const all = 1<<32 - 1
	n := all - int64(sum)
	for _, one := range b {
		n = slowTake(n, one)
	}
	return uint32(all - n)
}

// quickMore is More, as the library has it.
func quickMore(sum uint32, b []byte) uint32 { return crc32.Update(sum, crc32.IEEETable, b) }

func wantSum(t *testing.T, what string, got, want uint32) {
	t.Helper()
	if got != want {
		t.Errorf("%s: %#08x, not %#08x", what, got, want)
	}
}

func TestSumsThatAreKnown(t *testing.T) {
	for s, want := range map[string]uint32{
		"":                           0,
		"123456789":                  0xCBF43926,
		"a":                          0xE8B7BE43,
		"abc":                        0x352441C2,
		"message digest":             0x20159D7F,
		"\x00":                       0xD202EF8D,
		"\xFF":                       0xFF000000,
		"\x00\x00\x00\x00":           0x2144DF1C,
		"\xFF\xFF\xFF\xFF":           0xFFFFFFFF,
		strings.Repeat("\x00", 32):   0x190A55AD,
		strings.Repeat("\xFF", 32):   0xFF6CAB0B,
		"abcdefghijklmnopqrstuvwxyz": 0x4C2750BD,
		"The quick brown fox jumps over the lazy dog": 0x414FA339,
	} {
		wantSum(t, s, Sum([]byte(s)), want)
		wantSum(t, "More of 0 and "+s, More(0, []byte(s)), want)
	}
}

// Of few bytes the steps are told by hand.
func TestMoreWorkedOutByHand(t *testing.T) {
	// Turned it is 0, which is 0 after each step that takes a 0, and turned again all bits.
	wantSum(t, "all bits and a 0", More(0xFFFFFFFF, []byte{0}), 0xFFFFFFFF)
	wantSum(t, "all bits and many 0s", More(0xFFFFFFFF, make([]byte, 100)), 0xFFFFFFFF)
	// 0, taking 128, is 1 after seven steps, and after the eighth what is added of an odd number.
	wantSum(t, "all bits and 128", More(0xFFFFFFFF, []byte{128}), 0xFFFFFFFF-0xEDB88320)
	// 0, taking 64, is that after seven steps, and half of it after the eighth.
	wantSum(t, "all bits and 64", More(0xFFFFFFFF, []byte{64}), 0xFFFFFFFF-0x76DC4190)
	// Turned it is the lowest byte alone, which what is taken makes 0.
	wantSum(t, "a byte that is taken away", More(0xFFFFFF00, []byte{0xFF}), 0xFFFFFFFF)
	// Turned it is the second byte alone, which eight steps move down.
	wantSum(t, "a byte that is moved down", More(0xFFFF54FF, []byte{0}), 0xFFFFFF54)
	// Turned it is the highest byte alone: eight steps move it to the second highest place.
	wantSum(t, "the highest byte", More(0x54FFFFFF, []byte{0}), 0xFF54FFFF)
	// Turned it is all bits, of which one byte takes the lowest eight, and the steps move down the others.
	wantSum(t, "0 and a byte", More(0, []byte{0xFF}), 0xFF000000)
}

func TestMoreOfNoBytesIsTheSum(t *testing.T) {
	for _, sum := range someSums(numbers(), 1000) {
		wantSum(t, "nil", More(sum, nil), sum)
		wantSum(t, "empty", More(sum, []byte{}), sum)
		wantSum(t, "no bytes of some", More(sum, []byte{1, 2, 3}[1:1]), sum)
	}
	wantSum(t, "Sum of nil", Sum(nil), 0)
	wantSum(t, "Sum of what is empty", Sum([]byte{}), 0)
}

func TestMoreOfOneByte(t *testing.T) {
	for one := range 256 {
		b := []byte{byte(one)}
		wantSum(t, "Sum of one byte", Sum(b), slowMore(0, b))
		for _, sum := range someSums(numbers(), 20) {
			wantSum(t, "More of one byte", More(sum, b), slowMore(sum, b))
		}
	}
}

func TestSumByBits(t *testing.T) {
	r := numbers()
	for n := range 300 {
		b := some(r, n)
		wantSum(t, "some bytes", Sum(b), slowMore(0, b))
	}
	for _, n := range []int{1000, 4095, 4096, 4097} {
		b := some(r, n)
		wantSum(t, "many bytes", Sum(b), slowMore(0, b))
	}
}

func TestMoreByBits(t *testing.T) {
	r := numbers()
	for _, sum := range edgeSums() {
		for n := range 20 {
			b := some(r, n)
			wantSum(t, "behind an edge", More(sum, b), slowMore(sum, b))
		}
	}
	for n := range 300 {
		sum, b := r.Uint32(), some(r, n)
		wantSum(t, "behind any sum", More(sum, b), slowMore(sum, b))
	}
}

// Bytes that are more are held against the library, which is as quick; it is held against the steps itself.
func TestMoreOfManyBytes(t *testing.T) {
	r := numbers()
	for _, n := range []int{0, 1, 2, 3, 4, 7, 8, 9, 255, 256, 257} {
		sum, b := r.Uint32(), some(r, n)
		wantSum(t, "the library's", quickMore(sum, b), slowMore(sum, b))
	}
	for _, n := range []int{65535, 65536, 65537, 1 << 20} {
		for _, sum := range []uint32{0, 1, 0x80000000, math.MaxUint32, r.Uint32()} {
			b := some(r, n)
			wantSum(t, "many bytes", More(sum, b), quickMore(sum, b))
			wantSum(t, "many 0s", More(sum, make([]byte, n)), quickMore(sum, make([]byte, n)))
		}
		b := some(r, n)
		wantSum(t, "Sum of many bytes", Sum(b), crc32.ChecksumIEEE(b))
	}
	for range 3000 {
		sum, b := r.Uint32(), some(r, r.Intn(700))
		wantSum(t, "some bytes", More(sum, b), quickMore(sum, b))
		wantSum(t, "Sum of some bytes", Sum(b), crc32.ChecksumIEEE(b))
	}
}

func TestTableByEightSteps(t *testing.T) {
	for b, got := range Table() {
		wantSum(t, "by steps", got, uint32(slowTake(0, byte(b))))
		wantSum(t, "the library's", got, crc32.IEEETable[b])
		// A sum of all bits is 0, when it is turned.
		wantSum(t, "by More", ^got, More(math.MaxUint32, []byte{byte(b)}))
	}
}

func TestTableWorkedOutByHand(t *testing.T) {
	table := Table()
	for b, want := range map[int]uint32{
		0:   0,
		128: 0xEDB88320, // 1 after seven steps
		64:  0x76DC4190, // 1 after six, that above after seven, which is even
		32:  0x3B6E20C8,
		16:  0x1DB71064,
		8:   0x0EDB8832,
		4:   0x076DC419,
		2:   0xEE0E612C, // half of 0x076DC419, which is odd, and what is added then
		1:   0x77073096,
		3:   0x990951BA, // those of 1 and 2, added
		255: 0x2D02EF8D,
	} {
		wantSum(t, "by hand", table[b], want)
	}
}

func TestTableHasEachNumberOnce(t *testing.T) {
	places := map[uint32]int{}
	for b, n := range Table() {
		if other, ok := places[n]; ok {
			t.Errorf("%#08x of %d and of %d", n, other, b)
		}
		places[n] = b
	}
}
