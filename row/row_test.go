package row_test

import (
	"math"
	"slices"
	"testing"

	"eyewitness/row"
)

const all = math.MaxUint64

// samples are rows of all kinds: without words, without bits, of unlike
// lengths, with bits at the ends of words and of rows, and without a pattern.
func samples() [][]uint64 {
	rows := [][]uint64{
		nil, {}, {0}, {0, 0}, {0, 0, 0},
		{1}, {1, 0}, {0, 1}, {0, 0, 1}, {2, 3}, {1, 2}, {3, 3}, {4},
		{1 << 63}, {1 << 63, 0}, {0, 1 << 63}, {1 << 63, 1}, {0, 0, 1 << 63},
		{all}, {all, 0}, {0, all}, {all, all}, {all, all, all}, {all - 1, all >> 1},
	}
	x := uint64(0x9e3779b97f4a7c15)
	for i := 0; i < 40; i++ {
		r := make([]uint64, i%5)
		for k := range r {
			x ^= x << 13
			x ^= x >> 7
			x ^= x << 17
			r[k] = x >> (i % 64)
		}
		rows = append(rows, r)
	}
	return rows
}

// outside are numbers that no bit of r has.
func outside(r []uint64) []int {
	n := 64 * len(r)
	return []int{
		math.MinInt, math.MinInt + 1, math.MinInt + 64, math.MinInt32, -129, -128, -65, -64, -63, -2, -1,
		n, n + 1, n + 63, n + 64, n + 65, 1 << 32, 1<<32 + 1, 1 << 62, math.MaxInt - 64, math.MaxInt - 1, math.MaxInt,
	}
}

// digits are the bits of r, each asked by division alone.
func digits(r []uint64) []bool {
	var l []bool
	for _, w := range r {
		for range 64 {
			l = append(l, w%2 == 1)
			w /= 2
		}
	}
	return l
}

// numbers are those of the bits that are set.
func numbers(bits []bool) []int {
	var l []int
	for i, set := range bits {
		if set {
			l = append(l, i)
		}
	}
	return l
}

// put is the row of n words that has the bits of l, made by sums alone.
func put(n int, bits []bool) []uint64 {
	r := make([]uint64, n)
	for i := len(bits) - 1; i >= 0; i-- {
		r[i/64] *= 2
		if bits[i] {
			r[i/64]++
		}
	}
	return r
}

// guarded is r with spare room behind it that holds words, and all of that.
func guarded(r []uint64) (part, whole []uint64) {
	whole = append(slices.Clone(r), 0x5a5a, 0, all)
	return whole[:len(r)], whole
}

func TestExamples(t *testing.T) {
	r := row.Set(row.Set(row.New(66), 0), 65)
	if !slices.Equal(r, []uint64{1, 2}) {
		t.Errorf("the bits 0 and 65 make %v, want [1 2]", r)
	}
	if l := row.List([]uint64{1, 2}); !slices.Equal(l, []int{0, 65}) {
		t.Errorf("List([1 2]) = %v, want [0 65]", l)
	}
}

// P2.1, Words.
func TestWords(t *testing.T) {
	want := 0
	for n := 0; n <= 1<<13; n++ {
		if n > 64*want {
			want++
		}
		if got := row.Words(n); got != want {
			t.Fatalf("Words(%d) = %d, want %d", n, got, want)
		}
	}
	for n, want := range map[int]int{
		1 << 20: 1 << 14, 1<<20 - 1: 1 << 14, 1<<20 - 64: 1<<14 - 1, 1<<31 + 1: 1<<25 + 1, 1<<32 + 64: 1<<26 + 1,
		1 << 40: 1 << 34, 1<<40 - 1: 1 << 34, 1<<40 - 63: 1 << 34, 1<<40 - 64: 1<<34 - 1,
		-1: 0, -63: 0, -64: 0, -65: 0, -1 << 20: 0, -1 << 40: 0, math.MinInt32: 0, math.MinInt: 0, math.MinInt + 1: 0,
	} {
		if got := row.Words(n); got != want {
			t.Errorf("Words(%d) = %d, want %d", n, got, want)
		}
	}
}

// P2.1, New.
func TestNew(t *testing.T) {
	for n, want := range map[int]int{
		0: 0, 1: 1, 63: 1, 64: 1, 65: 2, 128: 2, 129: 3, 4096: 64, 4097: 65, 1<<20 - 1: 1 << 14, 1 << 20: 1 << 14,
		-1: 0, -64: 0, -65: 0, math.MinInt32: 0, math.MinInt: 0,
	} {
		r := row.New(n)
		if len(r) != want {
			t.Errorf("New(%d) has %d words, want %d", n, len(r), want)
		}
		for k, w := range r {
			if w != 0 {
				t.Fatalf("the word %d of New(%d) is %#x", k, n, w)
			}
		}
	}
}

// P2.1, Has.
func TestHas(t *testing.T) {
	for _, r := range samples() {
		for i, want := range digits(r) {
			if got := row.Has(r, i); got != want {
				t.Fatalf("Has(%#x, %d) = %v, want %v", r, i, got, want)
			}
		}
		part, _ := guarded(r)
		for _, i := range outside(r) {
			if row.Has(part, i) {
				t.Fatalf("Has(%#x, %d) = true, but there is no such bit", r, i)
			}
		}
	}
}

// P2.1, Set: a bit that there is, the others staying as they were.
func TestSet(t *testing.T) {
	for _, r := range samples() {
		for i := range 64 * len(r) {
			bits := digits(r)
			bits[i] = true
			part, whole := guarded(r)
			before := slices.Clone(whole)
			if got, want := row.Set(part, i), put(len(r), bits); !slices.Equal(got, want) {
				t.Fatalf("Set(%#x, %d) = %#x, want %#x", r, i, got, want)
			}
			if !slices.Equal(whole, before) {
				t.Fatalf("Set(%#x, %d) made %#x of %#x", r, i, whole, before)
			}
		}
	}
}

// P2.1, Set: a bit that there is not.
func TestSetOutside(t *testing.T) {
	for _, r := range samples() {
		for _, i := range outside(r) {
			part, whole := guarded(r)
			before := slices.Clone(whole)
			if got := row.Set(part, i); !slices.Equal(got, r) {
				t.Fatalf("Set(%#x, %d) = %#x, but there is no such bit", r, i, got)
			}
			if !slices.Equal(whole, before) {
				t.Fatalf("Set(%#x, %d) made %#x of %#x", r, i, whole, before)
			}
		}
	}
}

// joined are the bits of a or b, as many as the longer one has.
func joined(a, b []bool) []bool {
	l := make([]bool, max(len(a), len(b)))
	for i := range l {
		l[i] = i < len(a) && a[i] || i < len(b) && b[i]
	}
	return l
}

// P2.1, Or.
func TestOr(t *testing.T) {
	for _, a := range samples() {
		for _, b := range samples() {
			partA, wholeA := guarded(a)
			partB, wholeB := guarded(b)
			beforeA, beforeB := slices.Clone(wholeA), slices.Clone(wholeB)
			got := row.Or(partA, partB)
			want := put(max(len(a), len(b)), joined(digits(a), digits(b)))
			if !slices.Equal(got, want) {
				t.Fatalf("Or(%#x, %#x) = %#x, want %#x", a, b, got, want)
			}
			if !slices.Equal(wholeA, beforeA) || !slices.Equal(wholeB, beforeB) {
				t.Fatalf("Or(%#x, %#x) changed what it was given: %#x, %#x", a, b, wholeA, wholeB)
			}
		}
	}
}

// P2.1, Sub.
func TestSub(t *testing.T) {
	for _, a := range samples() {
		for _, b := range samples() {
			want := true
			bitsB := digits(b)
			for _, i := range numbers(digits(a)) {
				want = want && i < len(bitsB) && bitsB[i]
			}
			partA, _ := guarded(a)
			partB, _ := guarded(b)
			if got := row.Sub(partA, partB); got != want {
				t.Fatalf("Sub(%#x, %#x) = %v, want %v", a, b, got, want)
			}
		}
	}
}

// P2.1, Sub: one bit more in any word, the last one too, and rows of unlike
// lengths.
func TestSubEdges(t *testing.T) {
	for _, c := range []struct {
		a, b []uint64
		want bool
	}{
		{nil, nil, true}, {nil, []uint64{}, true}, {nil, []uint64{7}, true}, {[]uint64{0, 0}, nil, true}, {[]uint64{0, 1}, nil, false},
		{[]uint64{1}, []uint64{3, 3}, true}, {[]uint64{4}, []uint64{3}, false}, {[]uint64{3}, []uint64{1}, false},
		{[]uint64{1, 0}, []uint64{1}, true}, {[]uint64{0, 1}, []uint64{1}, false}, {[]uint64{1, 1 << 63}, []uint64{1}, false},
		{[]uint64{1, 1 << 63}, []uint64{1, 1 << 63}, true}, {[]uint64{1, 3 << 62}, []uint64{1, 1 << 63}, false}, {[]uint64{2, 0}, []uint64{1, all}, false},
	} {
		if got := row.Sub(c.a, c.b); got != c.want {
			t.Errorf("Sub(%#x, %#x) = %v, want %v", c.a, c.b, got, c.want)
		}
	}
}

// P2.1, Count.
func TestCount(t *testing.T) {
	for _, r := range samples() {
		part, _ := guarded(r)
		if got, want := row.Count(part), len(numbers(digits(r))); got != want {
			t.Fatalf("Count(%#x) = %d, want %d", r, got, want)
		}
	}
}

// P2.1, List.
func TestList(t *testing.T) {
	for _, r := range samples() {
		part, whole := guarded(r)
		before := slices.Clone(whole)
		if got, want := row.List(part), numbers(digits(r)); !slices.Equal(got, want) {
			t.Fatalf("List(%#x) = %v, want %v", r, got, want)
		}
		if !slices.Equal(whole, before) {
			t.Fatalf("List(%#x) made %#x of %#x", r, whole, before)
		}
	}
}

// P2.1, Same: as many words count, too, be they without bits.
func TestSame(t *testing.T) {
	for i, a := range samples() {
		for j, b := range samples() {
			partA, _ := guarded(a)
			partB, _ := guarded(b)
			if got, want := row.Same(partA, partB), slices.Equal(a, b); got != want {
				t.Fatalf("Same(%#x, %#x) = %v, want %v (the rows %d and %d)", a, b, got, want, i, j)
			}
		}
	}
	if !row.Same(nil, []uint64{}) || row.Same([]uint64{1}, []uint64{1, 0}) || row.Same([]uint64{1, 0}, []uint64{1}) {
		t.Error("Same: rows without words are the same; rows of unlike lengths are not")
	}
}

// Each bit of a row as long as a matrix's may be, and of the longest that New
// is asked for, is met alone.
func TestLongRows(t *testing.T) {
	for i := range 4096 {
		r := row.Set(row.New(4096), i)
		if !slices.Equal(row.List(r), []int{i}) || row.Count(r) != 1 || !row.Has(r, i) || row.Has(r, (i+64)%4096) {
			t.Fatalf("the bit %d alone is told as %v", i, row.List(r))
		}
	}
	last := 1<<20 - 1
	r := row.Set(row.Set(row.New(1<<20), last), 0)
	if !slices.Equal(row.List(r), []int{0, last}) || !row.Has(r, last) || row.Has(r, last+1) {
		t.Errorf("the bits 0 and %d are told as %v", last, row.List(r))
	}
}

// P2.2: a row comes back of its list and its length, whatever the order in
// which bits are set.
func TestRowIsKnownByList(t *testing.T) {
	for _, r := range samples() {
		up, down := row.New(64*len(r)), row.New(64*len(r))
		l := row.List(r)
		for k, i := range l {
			up = row.Set(up, i)
			down = row.Set(down, l[len(l)-1-k])
		}
		if !row.Same(up, r) || !row.Same(down, r) {
			t.Fatalf("of the list of %#x come %#x and %#x", r, up, down)
		}
		if len(l) != row.Count(r) || !slices.IsSorted(l) {
			t.Fatalf("List(%#x) = %v, Count = %d", r, l, row.Count(r))
		}
	}
}

// P2.2: rows of one list and one length are the same, and no others are; of
// one list alone, each has all bits of the other one.
func TestListAndLengthTellRowsApart(t *testing.T) {
	for _, a := range samples() {
		for _, b := range samples() {
			oneList := slices.Equal(row.List(a), row.List(b))
			if row.Same(a, b) != (oneList && len(a) == len(b)) {
				t.Fatalf("%#x and %#x: Same = %v, one list = %v", a, b, row.Same(a, b), oneList)
			}
			if (row.Sub(a, b) && row.Sub(b, a)) != oneList {
				t.Fatalf("%#x and %#x: one list = %v, but each has all bits of the other = %v", a, b, oneList, !oneList)
			}
			if row.Sub(a, b) != slices.Equal(row.List(row.Or(a, b)), row.List(b)) {
				t.Fatalf("%#x and %#x: Sub = %v, Or = %#x", a, b, row.Sub(a, b), row.Or(a, b))
			}
		}
	}
}
