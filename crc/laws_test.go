package crc

import (
	"bytes"
	"math"
	"slices"
	"strings"
	"sync"
	"testing"
)

// wantCuts holds that bytes, cut at each place, have More of the first ones' sum and the others.
func wantCuts(t *testing.T, before uint32, b []byte) {
	t.Helper()
	whole := More(before, b)
	for cut := range len(b) + 1 {
		if got := More(More(before, b[:cut]), b[cut:]); got != whole {
			t.Errorf("%d bytes, cut at %d, behind %#x: %#08x, not %#08x", len(b), cut, before, got, whole)
		}
	}
}

func TestBytesOneBehindTheOther(t *testing.T) {
	r := numbers()
	for n := range 120 {
		wantCuts(t, 0, some(r, n))
		wantCuts(t, r.Uint32(), some(r, n))
	}
	wantCuts(t, 0, []byte("123456789"))
	wantCuts(t, 0, make([]byte, 100))
	wantCuts(t, math.MaxUint32, make([]byte, 100))
	wantCuts(t, 0, bytes.Repeat([]byte{255}, 100))
	wantCuts(t, 0, some(r, 1500))
}

func TestManyPiecesOneBehindTheOther(t *testing.T) {
	r := numbers()
	for range 300 {
		var all []byte
		sum := uint32(0)
		for range r.Intn(12) {
			piece := some(r, r.Intn(20))
			all = append(all, piece...)
			sum = More(sum, piece)
		}
		wantSum(t, "pieces", sum, Sum(all))
	}
	b, sum := some(r, 2000), uint32(0)
	for i := range b {
		sum = More(sum, b[i:i+1])
	}
	wantSum(t, "byte by byte", sum, Sum(b))
}

// wantOthers holds that the sum is another one with the byte at a place otherwise, by each of the other 255;
// these sums are all unlike, too, each two of them being of bytes with one byte otherwise.
func wantOthers(t *testing.T, before uint32, b []byte, place int) {
	t.Helper()
	changed := slices.Clone(b)
	sums := map[uint32]int{More(before, b): 0}
	for by := 1; by < 256; by++ {
		changed[place] = b[place] ^ byte(by)
		sum := More(before, changed)
		if other, ok := sums[sum]; ok {
			t.Errorf("%d bytes, that in the place %d changed by %d and by %d: %#08x", len(b), place, other, by, sum)
		}
		sums[sum] = by
	}
}

func TestOneByteOtherwise(t *testing.T) {
	r := numbers()
	for _, b := range [][]byte{
		[]byte("123456789"), {0}, {255}, make([]byte, 12), bytes.Repeat([]byte{255}, 12),
		some(r, 1), some(r, 2), some(r, 3), some(r, 4), some(r, 5), some(r, 8), some(r, 33),
	} {
		for place := range b {
			wantOthers(t, 0, b, place)
			wantOthers(t, r.Uint32(), b, place)
		}
	}
	long := some(r, 4096)
	for _, place := range []int{0, 1, 255, 256, 2048, 4094, 4095} {
		wantOthers(t, 0, long, place)
	}
}

// added are bytes that are as long, by exclusive or.
func added(lists ...[]byte) []byte {
	sum := make([]byte, len(lists[0]))
	for _, b := range lists {
		for i, one := range b {
			sum[i] ^= one
		}
	}
	return sum
}

func TestThreeAdded(t *testing.T) {
	r := numbers()
	for n := range 200 {
		a, b, c := some(r, n), some(r, n), some(r, n)
		wantSum(t, "three", Sum(added(a, b, c)), Sum(a)^Sum(b)^Sum(c))
		wantSum(t, "one thrice", Sum(added(a, a, a)), Sum(a))
		wantSum(t, "one twice", Sum(added(a, a, b)), Sum(b))
		wantSum(t, "with 0s", Sum(added(a, b, make([]byte, n))), Sum(a)^Sum(b)^Sum(make([]byte, n)))
		x, y, z := r.Uint32(), r.Uint32(), r.Uint32()
		wantSum(t, "three behind sums", More(x^y^z, added(a, b, c)), More(x, a)^More(y, b)^More(z, c))
	}
	a, b, c := some(r, 65536), some(r, 65536), some(r, 65536)
	wantSum(t, "three long ones", Sum(added(a, b, c)), Sum(a)^Sum(b)^Sum(c))
	wantSum(t, "three of no bytes", Sum(added(nil, nil, nil)), Sum(nil)^Sum(nil)^Sum(nil))
}

// With one sum behind another's bytes there is one way back alone.
func TestSumsAreToldApart(t *testing.T) {
	sums := someSums(numbers(), 2000)
	slices.Sort(sums)
	sums = slices.Compact(sums)
	seen := map[uint32]uint32{}
	for _, sum := range sums {
		more := More(sum, []byte("abc"))
		if other, ok := seen[more]; ok {
			t.Errorf("behind %#08x as behind %#08x: %#08x", sum, other, more)
		}
		seen[more] = sum
	}
}

// What is handed in stays as it is, and what lies behind it in its room.
func TestNothingIsChanged(t *testing.T) {
	r := numbers()
	for n := range 50 {
		room := some(r, n+20)
		kept := slices.Clone(room)
		b := room[10 : 10+n]
		Sum(b)
		More(r.Uint32(), b)
		More(0, b[:n:n])
		if !bytes.Equal(room, kept) {
			t.Fatalf("of %d bytes some are others", n)
		}
	}
	text := []byte("xx0000abcdxx")
	Read(string(text[2:10]))
	if string(text) != "xx0000abcdxx" {
		t.Errorf("the text is another: %q", text)
	}
}

// What lies ahead of bytes, or behind them, does not count.
func TestBytesAroundDoNotCount(t *testing.T) {
	room := []byte("xx123456789xx")
	b := room[2:11]
	for range 2 {
		wantSum(t, "amid others", Sum(b), 0xCBF43926)
		for i := range room {
			if i < 2 || i > 10 {
				room[i] ^= 255
			}
		}
	}
	b[0] = '2'
	wantSum(t, "changed", Sum(b), slowMore(0, []byte("223456789")))
	b[0] = '1'
	wantSum(t, "changed back", Sum(b), 0xCBF43926)
}

func TestATableIsTheCallersOwn(t *testing.T) {
	table := Table()
	kept := table
	for i := range table {
		table[i] = uint32(i)
	}
	if table == kept || Table() != kept {
		t.Error("another table is changed along with one")
	}
	wantSum(t, "Sum", Sum([]byte("123456789")), 0xCBF43926)
	wantSum(t, "More", More(1, []byte("abc")), slowMore(1, []byte("abc")))
	own := Table()
	part := own[10:20]
	clear(part)
	if _ = append(part, 77); Table() != kept {
		t.Error("another table is changed along with a piece of one")
	}
	wantSum(t, "Sum, again", Sum([]byte("123456789")), 0xCBF43926)
}

// Nothing is kept from call to call: whatever was asked between, the answer is the same.
func TestNothingIsKept(t *testing.T) {
	r := numbers()
	for range 200 {
		sum, b := r.Uint32(), some(r, r.Intn(50))
		first, text := More(sum, b), Text(sum)
		More(r.Uint32(), some(r, r.Intn(50)))
		Sum(some(r, r.Intn(50)))
		Text(r.Uint32())
		Read("ffffffff")
		Read("none")
		wantSum(t, "again", More(sum, b), first)
		wantRead(t, text, sum)
	}
	wantSum(t, "0", Sum(nil), 0)
}

func TestManyAtOnce(t *testing.T) {
	var all sync.WaitGroup
	for i := range 8 {
		all.Go(func() {
			for n := range 50 {
				b := bytes.Repeat([]byte{byte(i)}, n)
				sum := Sum(b)
				wantSum(t, "at once", sum, slowMore(0, b))
				wantRead(t, Text(sum), sum)
				if Table()[128] != 0xEDB88320 {
					t.Error("table")
				}
			}
		})
	}
	all.Wait()
}

// Every call ends and none panics, at all arguments.
func TestCallsEnd(t *testing.T) {
	for _, sum := range edgeSums() {
		Text(sum)
		for _, b := range [][]byte{nil, {}, {0}, {255}, make([]byte, 65537), make([]byte, 1<<22)} {
			More(sum, b)
			Sum(b)
		}
	}
	for _, s := range []string{"", "0", "00000000", "\x00", "\xff\xfe\xfd", "é", strings.Repeat("0", 1<<22), strings.Repeat("f", 1<<22), strings.Repeat("\xff", 1<<22), strings.Repeat("_", 1<<22)} {
		Read(s)
	}
	Table()
}
