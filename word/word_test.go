package word_test

import (
	"math"
	"math/bits"
	"testing"

	"eyewitness/word"
)

// outside are numbers that no bit has.
var outside = []int{math.MinInt, math.MinInt + 1, math.MinInt32, -65, -64, -63, -2, -1, 64, 65, 127, 128, 256, 1 << 32, 1<<32 + 3, math.MaxInt - 1, math.MaxInt}

const all = math.MaxUint64

// samples are words of all kinds: none and all, each bit alone and lacking,
// each run of bits, stripes, and words without a pattern.
func samples() []uint64 {
	l := []uint64{0, all, 12, 0x5555555555555555, 0xaaaaaaaaaaaaaaaa, 0x00ff00ff00ff00ff, 0x0123456789abcdef}
	w := uint64(1)
	for i := 0; i < 64; i++ {
		bit := w << i
		l = append(l, bit, all^bit)
	}
	for i := 0; i < 64; i++ {
		for n := 2; i+n <= 64; n++ {
			l = append(l, uint64(all)>>(64-n)<<i)
		}
	}
	x := uint64(0x9e3779b97f4a7c15)
	for i := 0; i < 2000; i++ {
		x ^= x << 13
		x ^= x >> 7
		x ^= x << 17
		l = append(l, x, x>>(i%64), x<<(i%64))
	}
	return l
}

func TestExamples(t *testing.T) {
	if got := word.Low(3); got != 7 {
		t.Errorf("Low(3) = %d, want 7", got)
	}
	if got := word.First(12); got != 2 {
		t.Errorf("First(12) = %d, want 2", got)
	}
}

// P1.1, Bit.
func TestBit(t *testing.T) {
	want := uint64(1)
	for i := 0; i < 64; i++ {
		if got := word.Bit(i); got != want {
			t.Errorf("Bit(%d) = %#x, want %#x", i, got, want)
		}
		want += want
	}
	for _, i := range outside {
		if got := word.Bit(i); got != 0 {
			t.Errorf("Bit(%d) = %#x, want 0", i, got)
		}
	}
}

// P1.1, Has.
func TestHas(t *testing.T) {
	for _, w := range samples() {
		rest := w
		for i := 0; i < 64; i++ {
			if got, want := word.Has(w, i), rest%2 == 1; got != want {
				t.Fatalf("Has(%#x, %d) = %v, want %v", w, i, got, want)
			}
			rest /= 2
		}
		for _, i := range outside {
			if word.Has(w, i) {
				t.Fatalf("Has(%#x, %d) = true, but there is no such bit", w, i)
			}
		}
	}
}

// P1.1, Count.
func TestCount(t *testing.T) {
	for w, want := range map[uint64]int{0: 0, 1: 1, 12: 2, 1 << 63: 1, all: 64, all - 1: 63, all >> 1: 63, 0x5555555555555555: 32} {
		if got := word.Count(w); got != want {
			t.Errorf("Count(%#x) = %d, want %d", w, got, want)
		}
	}
	for _, w := range samples() {
		if got, want := word.Count(w), bits.OnesCount64(w); got != want {
			t.Fatalf("Count(%#x) = %d, want %d", w, got, want)
		}
	}
}

// P1.1, First.
func TestFirst(t *testing.T) {
	for w, want := range map[uint64]int{0: 64, 1: 0, 2: 1, 3: 0, 12: 2, 1 << 63: 63, 3 << 62: 62, all: 0} {
		if got := word.First(w); got != want {
			t.Errorf("First(%#x) = %d, want %d", w, got, want)
		}
	}
	for _, w := range samples() {
		if got, want := word.First(w), bits.TrailingZeros64(w); got != want {
			t.Fatalf("First(%#x) = %d, want %d", w, got, want)
		}
	}
}

// P1.1, Low.
func TestLow(t *testing.T) {
	want := uint64(0)
	for n := 0; n <= 64; n++ {
		if got := word.Low(n); got != want {
			t.Errorf("Low(%d) = %#x, want %#x", n, got, want)
		}
		want = 2*want + 1
	}
	for _, n := range outside {
		want := uint64(0)
		if n > 0 {
			want = all
		}
		if got := word.Low(n); got != want {
			t.Errorf("Low(%d) = %#x, want %#x", n, got, want)
		}
	}
}

// P1.2: the bits that Has tells make the word, and are as many as Count says.
func TestWordIsSumOfItsBits(t *testing.T) {
	for _, w := range samples() {
		sum, n := uint64(0), 0
		for i := 0; i < 64; i++ {
			if word.Has(w, i) {
				sum += word.Bit(i)
				n++
			}
		}
		if sum != w || n != word.Count(w) {
			t.Fatalf("the %d bits of %#x make %#x; Count says %d", n, w, sum, word.Count(w))
		}
	}
}

// P1.2: so do those that are met by taking the first one off, again and again.
func TestWordIsSumOfFirsts(t *testing.T) {
	for _, w := range samples() {
		rest, sum, last := w, uint64(0), -1
		for n := word.Count(w); n > 0; n-- {
			i := word.First(rest)
			if i <= last || i > 63 {
				t.Fatalf("of %#x the bit %d follows the bit %d", w, i, last)
			}
			rest -= word.Bit(i)
			sum += word.Bit(i)
			last = i
		}
		if rest != 0 || sum != w || word.First(rest) != 64 {
			t.Fatalf("the first bits of %#x make %#x, and leave %#x", w, sum, rest)
		}
	}
}

// P1.2: a lowest part is the sum of the bits below its end.
func TestLowIsSumOfBits(t *testing.T) {
	sum := uint64(0)
	for n := -3; n < 70; n++ {
		if got := word.Low(n); got != sum {
			t.Errorf("Low(%d) = %#x, want %#x", n, got, sum)
		}
		sum += word.Bit(n)
	}
}
