package crc

import (
	"fmt"
	"math"
	"strings"
	"testing"
)

// slowText is eight figures to the base 16, the highest one first.
func slowText(sum uint32) string {
	var b strings.Builder
	for place := 7; place >= 0; place-- {
		figure := byte(sum >> (4 * place) % 16)
		if figure < 10 {
			b.WriteByte('0' + figure)
		} else {
			b.WriteByte('a' + figure - 10)
		}
	}
	return b.String()
}

func wantRead(t *testing.T, s string, want uint32) {
	t.Helper()
	if got, ok := Read(s); got != want || !ok {
		t.Errorf("Read(%q) = %#08x, %v, not %#08x", s, got, ok, want)
	}
}

func wantNone(t *testing.T, s string) {
	t.Helper()
	if got, ok := Read(s); got != 0 || ok {
		t.Errorf("Read(%q) = %#08x, %v, and there is none", s, got, ok)
	}
}

func TestTextsThatAreKnown(t *testing.T) {
	for sum, want := range map[uint32]string{
		0:              "00000000",
		1:              "00000001",
		9:              "00000009",
		10:             "0000000a",
		15:             "0000000f",
		16:             "00000010",
		0xBF:           "000000bf",
		0xABCD:         "0000abcd",
		0x01234567:     "01234567",
		0x0FFFFFFF:     "0fffffff",
		0x10000000:     "10000000",
		0x7FFFFFFF:     "7fffffff",
		0x80000000:     "80000000",
		0x89ABCDEF:     "89abcdef",
		0xCBF43926:     "cbf43926",
		0xDEADBEEF:     "deadbeef",
		0xFFFFFFFE:     "fffffffe",
		math.MaxUint32: "ffffffff",
	} {
		if got := Text(sum); got != want {
			t.Errorf("Text(%#x) = %q, not %q", sum, got, want)
		}
		wantRead(t, want, sum)
	}
	if got := Text(Sum([]byte("123456789"))); got != "cbf43926" {
		t.Errorf("of 123456789: %q", got)
	}
}

func TestTextThereAndBack(t *testing.T) {
	for _, sum := range someSums(numbers(), 20000) {
		text := Text(sum)
		if text != slowText(sum) || text != fmt.Sprintf("%08x", sum) {
			t.Fatalf("Text(%#x) = %q", sum, text)
		}
		wantRead(t, text, sum)
	}
}

// Each figure in each place, with 0s or other figures in the other ones.
func TestEachFigureInEachPlace(t *testing.T) {
	for figure, letter := range "0123456789abcdef" {
		for place := range 8 {
			for _, others := range []uint32{0, 0x11111111, 0xFFFFFFFF} {
				shift := 4 * (7 - place)
				sum := others&^(15<<shift) | uint32(figure)<<shift
				text := []byte(slowText(others))
				text[place] = byte(letter)
				if got := Text(sum); got != string(text) {
					t.Errorf("Text(%#x) = %q, not %q", sum, got, text)
				}
				wantRead(t, string(text), sum)
			}
		}
	}
}

func TestReadOfFewerOrMoreLetters(t *testing.T) {
	wantNone(t, "")
	for _, letter := range []string{"0", "1", "9", "a", "f", " ", "\x00"} {
		for n := range 40 {
			if n != 8 {
				wantNone(t, strings.Repeat(letter, n))
			}
		}
	}
	for _, s := range []string{
		"abcd", "0000bf", "cbf4392", "bf43926", "cbf439261", "1cbf43926", "0cbf43926", "cbf439260", "000000000", "00000000f",
		"100000000", "ffffffff0", "fffffffff", "0000000000000000", "0000000100000000", "18446744073709551616",
		"cbf43926cbf43926", "cbf43926\n", "cbf43926\x00", "\x00cbf43926", "x", "0x", strings.Repeat("0", 65536), strings.Repeat("f", 65536),
	} {
		wantNone(t, s)
	}
}

// A sign, 0x, blanks and underlines, with eight letters in all, and with eight figures beside them.
func TestReadOfOtherThanFigures(t *testing.T) {
	for _, s := range []string{
		"+000abcd", "-000abcd", "+0000000", "-0000000", "-0000001", "+ffffffff", "-ffffffff", "+00000001", "-00000001", "0000000+", "0000-001",
		"0x00abcd", "0X00abcd", "0x000000", "0x0000000", "0x00000001", "0xcbf43926", "0o000001", "x0000000", "0000000x", "#0000000",
		"0000000h", "0x_00abc", "$cbf43926", "u+00abcd",
		" 000abcd", "000abcd ", "000 abcd", " 0000abcd", "0000abcd ", "0000 abcd", "        ", "\t000abcd", "000abcd\n", "000abcd\r", "0000\nbcd", "\v000abcd",
		"0000_bcd", "_000abcd", "000abcd_", "0_0_0_01", "0000_abcd", "________", "0_000000", "cbf4_3926",
		"0.000000", "1e000000.", "1p000000", "0000,001", "0000:001", "\"000000\"", "(0000000", "00000000;", "nan", "infinity", "true",
	} {
		wantNone(t, s)
	}
}

func TestReadOfFiguresBeyondF(t *testing.T) {
	for letter := 'g'; letter <= 'z'; letter++ {
		for place := range 8 {
			text := []byte("0000abcd")
			text[place] = byte(letter)
			wantNone(t, string(text))
		}
	}
}

func TestReadOfLargeLetters(t *testing.T) {
	for letter := 'A'; letter <= 'Z'; letter++ {
		for place := range 8 {
			for _, text := range []string{"00000000", "cbf43926", "ffffffff"} {
				b := []byte(text)
				b[place] = byte(letter)
				wantNone(t, string(b))
			}
		}
	}
	for _, s := range []string{"0000ABCD", "0000ABCd", "ABCDEF00", "CBF43926", "FFFFFFFF", "FfFfFfFf", "DEADBEEF", "deadbeeF", "Deadbeef"} {
		wantNone(t, s)
	}
}

// Of all bytes 16 are figures; those next to 0, 9, a and f in the code, and the byte 0, are among the others.
func TestReadOfEachByteInEachPlace(t *testing.T) {
	const figures = "0123456789abcdef"
	for one := range 256 {
		for place := range 8 {
			for _, text := range []string{"00000000", "12345678", "ffffffff"} {
				b := []byte(text)
				b[place] = byte(one)
				figure := strings.IndexByte(figures, byte(one))
				if figure < 0 {
					wantNone(t, string(b))
					continue
				}
				got, ok := Read(string(b))
				if !ok || got>>(4*(7-place))%16 != uint32(figure) || Text(got) != string(b) {
					t.Errorf("Read(%q) = %#08x, %v", b, got, ok)
				}
			}
		}
	}
	for _, s := range []string{
		"/0000000", "0000000/", ":0000000", "0000000:", "`0000000", "0000000`", "g0000000", "0000000g", "@0000000", "G0000000",
		"0000000\x00", "\x000000000", "0000\x00000", "\x00\x00\x00\x00\x00\x00\x00\x00",
	} {
		if len(s) != 8 {
			t.Fatalf("%q has %d bytes", s, len(s))
		}
		wantNone(t, s)
	}
}

// Letters of more than one byte, with eight bytes in all, and with eight letters in all.
func TestReadOfWideLetters(t *testing.T) {
	for _, s := range []string{
		"000000é", "é000000", "00000€", "€00000", "00000０", "０00000", "0000😀", "😀0000", "éééé", "００00", "aａbbbb", "𝟎𝟎",
		"\u0660000000", "000000\u0669", "\xff0000000", "0000000\xff", "0000000\x80", "\xc3\x28000000",
	} {
		if len(s) != 8 {
			t.Fatalf("%q has %d bytes", s, len(s))
		}
		wantNone(t, s)
	}
	for _, s := range []string{"0000000é", "０００００００１", "ａｂｃｄｅｆ００", "٠٠٠٠٠٠٠٠", "éééééééé", "\ufeff00000000"} {
		wantNone(t, s)
	}
}

// What is read has its own text back: there is no second text of any sum.
func TestNoTextButASumsOwnIsRead(t *testing.T) {
	const letters = "0189aefg AF+-_x.\x00"
	r := numbers()
	for range 200000 {
		b := make([]byte, 6+r.Intn(5))
		for i := range b {
			b[i] = letters[r.Intn(len(letters)-r.Intn(11))]
		}
		got, ok := Read(string(b))
		if ok != isText(string(b)) || ok && Text(got) != string(b) || !ok && got != 0 {
			t.Fatalf("Read(%q) = %#08x, %v", b, got, ok)
		}
	}
}

// isText tells whether s is eight figures, none large.
func isText(s string) bool { return len(s) == 8 && strings.Trim(s, "0123456789abcdef") == "" }
