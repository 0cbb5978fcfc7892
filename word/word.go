// Package word is layer 1: see shared/doc/01-word.md.
package word

import (
	"iter"

	"packhorse/api"
)

// allOnes is the greatest word.
const allOnes = 0xffff

// Put16 and Put32 lay a number down behind bytes, the higher byte first.
func Put16(b []byte, n int) []byte {
	return behind(b, byte(n>>8), byte(n))
}

func Put32(b []byte, n uint32) []byte {
	return behind(b, byte(n>>24), byte(n>>16), byte(n>>8), byte(n))
}

// At16 and At32 are the number at a place.
func At16(b []byte, at int) (int, api.Errno) {
	if !stands(b, at, 2) {
		return 0, api.ErrShort
	}
	return int(b[at])<<8 | int(b[at+1]), api.OK
}

func At32(b []byte, at int) (uint32, api.Errno) {
	if !stands(b, at, 4) {
		return 0, api.ErrShort
	}
	return uint32(b[at])<<24 | uint32(b[at+1])<<16 | uint32(b[at+2])<<8 | uint32(b[at+3]), api.OK
}

// Sum is the checksum of parts that stand one behind the other.
func Sum(parts ...[]byte) int {
	var s uint64 // wide enough to be folded once, behind the last word
	for w := range words(parts) {
		s += uint64(w)
	}
	return allOnes - fold(s)
}

// Patch is the checksum when one word of what it sums becomes another one.
func Patch(sum, old, next int) int {
	s := (allOnes - low(sum)) + (allOnes - low(old)) + low(next)
	return allOnes - fold(uint64(s))
}

// behind makes new memory: appending to b could write into the room behind its end, which is the caller's.
func behind(b []byte, tail ...byte) []byte {
	out := make([]byte, len(b)+len(tail))
	copy(out, b)
	copy(out[len(b):], tail)
	return out
}

// stands takes the place away from the length: added to the size, a great place would go around.
func stands(b []byte, at, size int) bool {
	return at >= 0 && len(b)-at >= size
}

// words tells the words of parts. A part of odd length leaves its last byte as the higher one of a word that the next part ends, so a sum never hangs on where parts are cut.
func words(parts [][]byte) iter.Seq[uint16] {
	return func(yield func(uint16) bool) {
		var high uint16
		open := false // high waits for its lower byte
	telling:
		for _, part := range parts {
			for _, b := range part {
				if open = !open; open {
					high = uint16(b) << 8
					continue
				}
				if !yield(high | uint16(b)) {
					break telling
				}
			}
		}
		if open {
			yield(high)
		}
	}
}

func fold(s uint64) int {
	for s > allOnes {
		s = s>>16 + s&allOnes
	}
	return int(s)
}

func low(n int) int { return n & allOnes }
