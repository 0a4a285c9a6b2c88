package sidecar

import (
	"bytes"
	"slices"
	"strconv"
	"strings"

	"gambrel/api"
	"gambrel/crc"
	"gambrel/profile"
)

// guess is the one sidecar that could have the bytes b.
// If b is none's, it is any that has other bytes, or one that may not be.
func guess(b []byte) Meta {
	for _, p := range profile.All() {
		if rest, ok := bytes.CutPrefix(b, []byte(heads[p])); ok {
			return guessBehind(p, rest)
		}
	}
	return Meta{}
}

// guessBehind is guess of what is behind the head of the profile p.
func guessBehind(p int, rest []byte) Meta {
	switch row, _ := profile.Of(p); row.Layout {
	case 'j':
		return guessText(p, string(rest))
	case 'i':
		return guessBytes(p, rest, lowFirst, true)
	default: // b and p, which differ in Size alone.
		return guessBytes(p, rest, highFirst, row.Layout != sizeInShards)
	}
}

// guessText takes a line of figures, and a sum of each line behind it, but for the last one.
func guessText(p int, rest string) Meta {
	lines := strings.Split(rest, "\n")
	numbers := strings.Split(lines[0], " ")
	// There are the figures, the last sum, and what is behind the last byte 10.
	if len(lines) < 3 || len(numbers) < 3 {
		return Meta{}
	}
	m := Meta{X: api.Params{P: p, K: number(numbers[1]), M: number(numbers[2])}, Size: number(numbers[0])}
	for _, line := range lines[1 : len(lines)-2] {
		// 0 of what is no sum's text: it is written otherwise.
		sum, _ := crc.Read(line)
		m.Sums = append(m.Sums, sum)
	}
	return m
}

// number is what figures say; 0 of what are none, since it is written otherwise.
func number(figures string) int {
	n, err := strconv.Atoi(figures)
	if err != nil {
		return 0
	}
	return n
}

// guessBytes takes K, M, the size, if it is there, and the sums, but for the last one, each four bytes as whole tells them.
func guessBytes(p int, rest []byte, whole func([]byte) uint32, sized bool) Meta {
	if len(rest) < 2 {
		return Meta{}
	}
	m := Meta{X: api.Params{P: p, K: int(rest[0]), M: int(rest[1])}}
	var numbers []uint32
	for four := range slices.Chunk(rest[2:], 4) {
		numbers = append(numbers, whole(four))
	}
	if sized && len(numbers) > 0 {
		m.Size, numbers = int(numbers[0]), numbers[1:]
	}
	if len(numbers) > 0 {
		m.Sums = numbers[:len(numbers)-1]
	}
	return m
}

func highFirst(four []byte) uint32 {
	n := uint32(0)
	for _, one := range four {
		n = n<<8 | uint32(one)
	}
	return n
}

func lowFirst(four []byte) uint32 {
	n := uint32(0)
	for _, one := range slices.Backward(four) {
		n = n<<8 | uint32(one)
	}
	return n
}
