// Package word is layer 1: words of 64 bits (see shared/doc/01-word.md).
//
// A number that is below 0 is, as a uint64, a shift by far more than 63, and
// a shift by more than 63 leaves no bit: so numbers out of range need no
// question of their own where the answer is "no bit".
package word

// Bit is the word with the bit i alone; 0, unless i is from 0 to 63.
func Bit(i int) uint64 { return 1 << uint64(i) }

// Has tells whether the bit i of w is set; false, if there is no such bit.
func Has(w uint64, i int) bool { return w>>uint64(i)&1 == 1 }

// Masks of the lower half of each field of 2, 4 and 8 bits.
const (
	halvesOf2 = 0x5555555555555555
	halvesOf4 = 0x3333333333333333
	halvesOf8 = 0x0f0f0f0f0f0f0f0f
)

// Count tells how many bits of w are set.
//
// Rows are counted word by word, so this takes six sums instead of 64 steps:
// each joins the counts of neighbouring fields. A byte has room for the count
// of all 64 bits, so from bytes on nothing is carried into the lowest one, and
// the others are masked away at the end only.
func Count(w uint64) int {
	w = w&halvesOf2 + w>>1&halvesOf2
	w = w&halvesOf4 + w>>2&halvesOf4
	w = w&halvesOf8 + w>>4&halvesOf8
	w += w >> 8
	w += w >> 16
	w += w >> 32
	return int(w & 127)
}

// First is the lowest bit of w that is set; 64, if none is.
//
// The bits below it are those that taking 1 off sets anew: all 64 of the
// word 0, so none needs no question of its own either.
func First(w uint64) int { return Count((w - 1) &^ w) }

// Low is the word with the lowest n bits set: none, if n is below 0, and
// all, if it is above 64.
func Low(n int) uint64 {
	if n < 0 {
		return 0
	}
	return 1<<uint64(n) - 1
}
