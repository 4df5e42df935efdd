package path_test

import (
	"math"
	"slices"
	"testing"

	"eyewitness/api"
	"eyewitness/hull"
	"eyewitness/mat"
	"eyewitness/path"
)

// A table says of each pair whether it is there: matrices are made of tables,
// and what must come of them is worked out on tables, without the layer.
type table [][]bool

// lasting are the numbers of rows of the samples: around the ends of words.
var lasting = []int{5, 63, 64, 65, 128, 129}

// outside are numbers that no row of a matrix of n rows has: among them those
// of bits that its words have beyond n, and those that are one of n when cut
// to fewer bits.
func outside(n int) []int {
	return []int{math.MinInt, math.MinInt + 1, math.MinInt32, -4096, -65, -64, -63, -3, -2, -1, n, n + 1, n + 63, n + 64, n + 65, 4096, 1 << 32, 1<<32 + 1, 1 << 62, math.MaxInt - 63, math.MaxInt - 1, math.MaxInt}
}

func drawn(n int, has func(i, j int) bool) table {
	t := make(table, n)
	for i := range t {
		t[i] = make([]bool, n)
		for j := range t[i] {
			t[i][j] = has(i, j)
		}
	}
	return t
}

// of is the table of n rows that has these pairs.
func of(n int, pairs ...[2]int) table {
	return drawn(n, func(i, j int) bool { return slices.Contains(pairs, [2]int{i, j}) })
}

// made is the matrix of the table, by sums alone.
func (t table) made() api.Mat {
	n := len(t)
	m := api.Mat{N: n, Rows: make([][]uint64, n)}
	for i := range t {
		m.Rows[i] = make([]uint64, (n+63)/64)
		for j := n - 1; j >= 0; j-- {
			m.Rows[i][j/64] *= 2
			if t[i][j] {
				m.Rows[i][j/64]++
			}
		}
	}
	return m
}

// pairs are those of the table, by their numbers.
func (t table) pairs() [][2]int {
	var l [][2]int
	for i := range t {
		for j := range t {
			if t[i][j] {
				l = append(l, [2]int{i, j})
			}
		}
	}
	return l
}

// has tells whether the pair is there, be there such numbers or not.
func (t table) has(i, j int) bool {
	return i >= 0 && i < len(t) && j >= 0 && j < len(t) && t[i][j]
}

// isPath tells it by the words alone.
func (t table) isPath(l []int) bool {
	if len(l) < 2 {
		return false
	}
	for k := range l[1:] {
		if !t.has(l[k], l[k+1]) {
			return false
		}
	}
	return true
}

// orders calls each for all lists of n numbers below top, the one that stands
// first ahead, until each says that it is enough.
func orders(n, top int, each func([]int) bool) bool {
	l := make([]int, n)
	for {
		if each(l) {
			return true
		}
		k := n - 1
		for k >= 0 && l[k] == top-1 {
			l[k] = 0
			k--
		}
		if k < 0 {
			return false
		}
		l[k]++
	}
}

// tried is the first path from i to j, found by trying all lists, shorter ones
// ahead: one that is longer than all numbers with an end more has a number
// twice, and can be cut short.
func (t table) tried(i, j int) []int {
	var found []int
	for n := range len(t) {
		orders(n, len(t), func(inner []int) bool {
			l := append(append([]int{i}, inner...), j)
			if t.isPath(l) {
				found = l
			}
			return found != nil
		})
		if found != nil {
			return found
		}
	}
	return nil
}

// far is, for each number, of how few pairs a path from it to j is; 0, if
// there is none. It is gone backwards from j, by rings.
func (t table) far(j int) []int {
	far := make([]int, len(t))
	ring := []int{j}
	for d := 1; len(ring) > 0; d++ {
		var next []int
		for _, to := range ring {
			for from := range t {
				if t[from][to] && far[from] == 0 {
					far[from] = d
					next = append(next, from)
				}
			}
		}
		ring = next
	}
	return far
}

// chosen is the first path from i to j: of the numbers that are one pair less
// away from j the least one goes next.
func (t table) chosen(i, j int, far []int) []int {
	if far[i] == 0 {
		return nil
	}
	l := []int{i}
	for d := far[i] - 1; d > 0; d-- {
		k := 0
		for far[k] != d || !t[i][k] {
			k++
		}
		i = k
		l = append(l, i)
	}
	return append(l, j)
}

// all is all tables of n rows, or every so many of them.
func all(n, step int) []table {
	var l []table
	for code := 0; code < 1<<(n*n); code += step {
		l = append(l, drawn(n, func(i, j int) bool { return code>>(i*n+j)%2 == 1 }))
	}
	return l
}

// small is all tables of up to 3 rows, and every so many of 4.
func small(step int) []table {
	return slices.Concat(all(0, 1), all(1, 1), all(2, 1), all(3, 1), all(4, step))
}

// samples are tables of n rows of all kinds: without pairs and with all, ways
// up, down and round, trees, layers, parts that know nothing of one another,
// a round at the end, and without a pattern, sparse and less so.
func samples(n int) []table {
	x := uint64(0x9e3779b97f4a7c15) + uint64(n)
	random := func(one uint64) func(i, j int) bool {
		return func(i, j int) bool {
			x ^= x << 13
			x ^= x >> 7
			x ^= x << 17
			return x%one == 0
		}
	}
	var l []table
	for _, has := range []func(i, j int) bool{
		func(i, j int) bool { return false },
		func(i, j int) bool { return true },
		func(i, j int) bool { return i == j },
		func(i, j int) bool { return i != j },
		func(i, j int) bool { return i < j },
		func(i, j int) bool { return j == i+1 },
		func(i, j int) bool { return j == i-1 },
		func(i, j int) bool { return j == (i+1)%n },
		func(i, j int) bool { return i == (j+1)%n },
		func(i, j int) bool { return j == (i+7)%n && i != 3 },
		func(i, j int) bool { return j > 0 && i == (j-1)/2 },
		func(i, j int) bool { return (i/4+1)%(n/4+1) == j/4 && (i+j)%3 != 0 },
		func(i, j int) bool { return i%3 == j%3 && i < j },
		func(i, j int) bool { return i == n-1 && j == n-1 },
		func(i, j int) bool { return i == n-2 && j == n-1 || i == n-1 && j == n-2 || i == 0 },
		random(uint64(2 * n)), random(uint64(n)), random(uint64(n/2 + 1)), random(uint64(n/4 + 1)), random(7),
	} {
		l = append(l, drawn(n, has))
	}
	return l
}

// large is the samples of all numbers of rows.
func large() []table {
	var l []table
	for _, n := range lasting {
		l = append(l, samples(n)...)
	}
	return l
}

// brief is what a list begins with.
func brief[T any](l []T) []T { return l[:min(len(l), 24)] }

// guarded is m with spare room behind its rows, and behind the words of each,
// that holds pairs; and whether all of that is as it was.
func guarded(m api.Mat) (api.Mat, func() bool) {
	spare := []uint64{math.MaxUint64, 0x5a5a}
	fence := func(r []uint64) []uint64 { return append(slices.Clone(r), spare...)[:len(r)] }
	g := api.Mat{N: m.N}
	for _, r := range m.Rows {
		g.Rows = append(g.Rows, fence(r))
	}
	g.Rows = append(g.Rows, fence([]uint64{math.MaxUint64}))[:m.N]
	return g, func() bool {
		for _, r := range g.Rows[:m.N+1] {
			if !slices.Equal(r[len(r):len(r)+2], spare) {
				return false
			}
		}
		last := g.Rows[:m.N+1][m.N]
		return g.N == m.N && slices.EqualFunc(g.Rows, m.Rows, slices.Equal[[]uint64]) && slices.Equal(last, []uint64{math.MaxUint64})
	}
}

// find holds one call of Find against a path, or none.
func find(t *testing.T, x table, m api.Mat, i, j int, want []int) {
	t.Helper()
	got, ok := path.Find(m, i, j)
	if ok != (want != nil) || !slices.Equal(got, want) {
		t.Fatalf("of %d, %v: Find(.., %d, %d) = %v, %v; want %v", len(x), brief(x.pairs()), i, j, brief(got), ok, brief(want))
	}
	if ok && !path.Is(m, got) {
		t.Fatalf("of %d, %v: Is(.., %v) = false, but it is the path from %d to %d", len(x), brief(x.pairs()), brief(got), i, j)
	}
}

// round holds one call of Round against a round, or none.
func round(t *testing.T, x table, m api.Mat, want []int) {
	t.Helper()
	if got, ok := path.Round(m); ok != (want != nil) || !slices.Equal(got, want) {
		t.Fatalf("of %d, %v: Round = %v, %v; want %v", len(x), brief(x.pairs()), brief(got), ok, brief(want))
	}
}

func TestExample(t *testing.T) {
	x := of(3, [2]int{0, 1}, [2]int{1, 2}, [2]int{2, 0})
	round(t, x, x.made(), []int{0, 1, 2, 0})
}

// P14.1: answers that are written out.
func TestWrittenOut(t *testing.T) {
	// Of two paths of one length the first one goes by the lesser number that
	// comes first, be the next ones greater.
	x := of(6, [2]int{0, 1}, [2]int{0, 2}, [2]int{1, 4}, [2]int{2, 3}, [2]int{3, 5}, [2]int{4, 5})
	find(t, x, x.made(), 0, 5, []int{0, 1, 4, 5})
	round(t, x, x.made(), nil)
	// A shorter path stands ahead of a longer one of lesser numbers.
	x = of(5, [2]int{0, 1}, [2]int{1, 2}, [2]int{2, 3}, [2]int{0, 4}, [2]int{4, 3})
	find(t, x, x.made(), 0, 3, []int{0, 4, 3})
	find(t, x, x.made(), 3, 0, nil)
	// A number isn't a path to itself, but its pair with itself is; which is no
	// shorter way to another number.
	x = of(3, [2]int{0, 1}, [2]int{1, 1}, [2]int{1, 2})
	find(t, x, x.made(), 0, 0, nil)
	find(t, x, x.made(), 1, 1, []int{1, 1})
	find(t, x, x.made(), 0, 2, []int{0, 1, 2})
	find(t, x, x.made(), 2, 2, nil)
	round(t, x, x.made(), []int{1, 1})
	// The least number's round goes, be another one's shorter; and of that
	// number the shortest one.
	x = of(6, [2]int{5, 5}, [2]int{1, 4}, [2]int{4, 3}, [2]int{3, 1}, [2]int{4, 2}, [2]int{2, 3}, [2]int{0, 1})
	round(t, x, x.made(), []int{1, 4, 3, 1})
	find(t, x, x.made(), 1, 5, nil)
	// A way on from a number that comes back to where it began.
	x = of(4, [2]int{2, 1}, [2]int{1, 2}, [2]int{1, 0}, [2]int{0, 3})
	find(t, x, x.made(), 2, 3, []int{2, 1, 0, 3})
	find(t, x, x.made(), 2, 2, []int{2, 1, 2})
	round(t, x, x.made(), []int{1, 2, 1})
	// Nothing at all.
	round(t, nil, api.Mat{}, nil)
	round(t, nil, api.Mat{Rows: [][]uint64{}}, nil)
	find(t, nil, api.Mat{}, 0, 0, nil)
}

// P14.1, Find: all matrices of up to 3 rows, and many of 4, by trying all
// lists of numbers.
func TestFind(t *testing.T) {
	for _, x := range small(3) {
		m, kept := guarded(x.made())
		for i := range x {
			for j := range x {
				find(t, x, m, i, j, x.tried(i, j))
			}
		}
		if !kept() {
			t.Fatalf("Find or Is changed %v", x.pairs())
		}
	}
}

// P14.1, Find: many rows.
func TestFindLarge(t *testing.T) {
	for _, x := range large() {
		m, kept := guarded(x.made())
		for j := range x {
			far := x.far(j)
			for i := range x {
				find(t, x, m, i, j, x.chosen(i, j, far))
			}
		}
		if !kept() {
			t.Fatalf("Find or Is changed %v", brief(x.pairs()))
		}
	}
}

// Both ways by which the tests know first paths say the same.
func TestTriedIsChosen(t *testing.T) {
	for _, x := range append(small(101), samples(5)...) {
		for j := range x {
			far := x.far(j)
			for i := range x {
				if a, b := x.tried(i, j), x.chosen(i, j, far); !slices.Equal(a, b) {
					t.Fatalf("of %v, from %d to %d: %v by trying, %v by choosing", x.pairs(), i, j, a, b)
				}
			}
		}
	}
}

// P14.1, Find: numbers that there are none of, with one that there is, with
// itself and with another one.
func TestFindOutside(t *testing.T) {
	for _, n := range []int{0, 1, 2, 63, 64, 65, 128} {
		x := drawn(n, func(i, j int) bool { return true })
		m, _ := guarded(x.made())
		for _, o := range outside(n) {
			if o >= 0 && o < n {
				continue
			}
			find(t, x, m, o, o, nil)
			find(t, x, m, o, -1, nil)
			find(t, x, m, n, o, nil)
			for i := range n {
				find(t, x, m, i, o, nil)
				find(t, x, m, o, i, nil)
			}
		}
	}
}

// P14.1, Round: of the least number that has one the first one.
func TestRound(t *testing.T) {
	for _, x := range small(3) {
		m, kept := guarded(x.made())
		var want []int
		for i := range x {
			if want == nil {
				want = x.tried(i, i)
			}
		}
		round(t, x, m, want)
		if !kept() {
			t.Fatalf("Round changed %v", x.pairs())
		}
	}
}

// P14.1, Round: many rows, and ways up that turn back at one place alone.
func TestRoundLarge(t *testing.T) {
	l := large()
	for _, n := range lasting {
		for _, from := range []int{n - 1, n / 2, 1, 0} {
			for _, to := range []int{from, from / 2, 0} {
				l = append(l, drawn(n, func(i, j int) bool { return j == i+1 || i == from && j == to }))
			}
		}
	}
	for _, x := range l {
		m, kept := guarded(x.made())
		var want []int
		for i := range x {
			if want == nil {
				want = x.chosen(i, i, x.far(i))
			}
		}
		round(t, x, m, want)
		if !kept() {
			t.Fatalf("Round changed %v", brief(x.pairs()))
		}
	}
}

// is holds one call of Is against the words.
func is(t *testing.T, x table, m api.Mat, l []int) {
	t.Helper()
	if got, want := path.Is(m, l), x.isPath(l); got != want {
		t.Fatalf("of %d, %v: Is(.., %v) = %v, want %v", len(x), brief(x.pairs()), brief(l), got, want)
	}
}

// P14.1, Is: all lists of up to 4 numbers of all matrices of up to 3 rows, and
// of many of 4: among them numbers that there are none of.
func TestIs(t *testing.T) {
	for _, x := range small(211) {
		m, kept := guarded(x.made())
		is(t, x, m, nil)
		for n := range 5 {
			orders(n, len(x)+2, func(l []int) bool {
				shifted := slices.Clone(l)
				for k := range l {
					shifted[k]--
				}
				before := slices.Clone(shifted)
				is(t, x, m, shifted)
				return !slices.Equal(shifted, before)
			})
		}
		if !kept() {
			t.Fatalf("Is changed %v", x.pairs())
		}
	}
}

// P14.1, Is: a path that is wrong at one place: by another number, or by one
// that there is none of; one without its beginning or its end is one still,
// as long as it has two numbers; one and the next one make one.
func TestIsButForOne(t *testing.T) {
	for _, n := range []int{5, 63, 64, 65, 129} {
		x := drawn(n, func(i, j int) bool { return j == i+1 || i == n-1 && j == 0 || i == 3 && j == 3 })
		m, _ := guarded(x.made())
		var l []int
		for i := range n {
			l = append(l, i)
		}
		for _, way := range [][]int{l, append(slices.Clone(l), 0), slices.Concat(l, l, l), {3, 3}, {3, 3, 3, 3, 4}} {
			is(t, x, m, way)
			if !path.Is(m, way) {
				t.Fatalf("of %d: Is(.., %v) = false", n, brief(way))
			}
			for k := range way {
				is(t, x, m, way[k:])
				is(t, x, m, way[:k])
				is(t, x, m, slices.Delete(slices.Clone(way), k, k+1))
				for _, o := range append(outside(n), 0, 1, 3, n-1, n/2) {
					wrong := slices.Clone(way)
					wrong[k] = o
					is(t, x, m, wrong)
				}
			}
		}
		for _, o := range outside(n) {
			is(t, x, m, []int{o})
			is(t, x, m, []int{o, o})
		}
	}
}

// P14.1, Is: spare room behind the list isn't part of it, and isn't changed.
func TestIsSpareRoom(t *testing.T) {
	x := of(3, [2]int{0, 1}, [2]int{1, 2})
	whole := []int{0, 1, 2, 0, 7}
	before := slices.Clone(whole)
	for n, want := range []bool{false, false, true, true, false, false} {
		if got := path.Is(x.made(), whole[:n]); got != want {
			t.Errorf("Is of the first %d of %v: %v, want %v", n, whole, got, want)
		}
	}
	if !slices.Equal(whole, before) {
		t.Errorf("Is changed a list: %v", whole)
	}
}

// P14.2: there is a path just where the hull has the pair; no number but the
// ends is twice in a first path; and a round is of the least number that the
// hull has with itself.
func TestHullTellsPaths(t *testing.T) {
	for _, x := range append(small(5), large()...) {
		m := x.made()
		h := hull.Close(m)
		for i := range x {
			for j := range x {
				l, ok := path.Find(m, i, j)
				if ok != mat.Has(h, i, j) {
					t.Fatalf("of %d, %v: Find(.., %d, %d) = %v, %v; in the hull: %v", len(x), brief(x.pairs()), i, j, brief(l), ok, mat.Has(h, i, j))
				}
				if ok {
					once(t, x, l, i, j)
				}
			}
		}
		least, goes := hull.Loop(h)
		l, ok := path.Round(m)
		if ok != goes || ok && l[0] != least {
			t.Fatalf("of %d, %v: Round = %v, %v; Loop of the hull = %d, %v", len(x), brief(x.pairs()), brief(l), ok, least, goes)
		}
	}
}

// once asks whether l is a path from i to j, in which no number but the ends
// is twice.
func once(t *testing.T, x table, l []int, i, j int) {
	t.Helper()
	if !x.isPath(l) || l[0] != i || l[len(l)-1] != j {
		t.Fatalf("of %d, %v: %v is no path from %d to %d", len(x), brief(x.pairs()), brief(l), i, j)
	}
	met := make([]bool, len(x))
	for k, at := range l {
		if met[at] && (k < len(l)-1 || at != i) {
			t.Fatalf("of %d, %v: %d is twice in %v", len(x), brief(x.pairs()), at, brief(l))
		}
		met[at] = true
	}
}

// Matrices may share rows, with themselves too.
func TestSharedRows(t *testing.T) {
	r := []uint64{1<<1 | 1<<2}
	m := api.Mat{N: 3, Rows: [][]uint64{r, {1}, r}}
	x := drawn(3, func(i, j int) bool { return m.Rows[i][0]>>j%2 == 1 })
	find(t, x, m, 0, 0, []int{0, 1, 0})
	find(t, x, m, 2, 0, []int{2, 1, 0})
	find(t, x, m, 2, 2, []int{2, 2})
	round(t, x, m, []int{0, 1, 0})
	if r[0] != 6 {
		t.Errorf("a row was changed: %d", r[0])
	}
}

// Answers are their own: what is done to one isn't seen in the next one.
func TestAnswersAreTheirOwn(t *testing.T) {
	x := of(4, [2]int{0, 1}, [2]int{1, 2}, [2]int{2, 0}, [2]int{2, 3})
	m := x.made()
	for range 3 {
		l, _ := path.Find(m, 0, 3)
		k, _ := path.Round(m)
		find(t, x, m, 0, 3, []int{0, 1, 2, 3})
		round(t, x, m, []int{0, 1, 2, 0})
		for _, answer := range [][]int{l, k} {
			clear(answer[:cap(answer)])
		}
	}
}

// rising are the numbers from 0 to below n.
func rising(n int) []int {
	l := make([]int, n)
	for i := range l {
		l[i] = i
	}
	return l
}

// The greatest matrices: a way over all numbers, up, down and round; all
// pairs; a round of the last number alone; and Is of a list with more numbers
// than a matrix.
func TestGreatest(t *testing.T) {
	n := api.MaxOps
	up := rising(n)
	m := drawn(n, func(i, j int) bool { return j == i+1 }).made()
	find(t, nil, m, 0, n-1, up)
	find(t, nil, m, n-1, 0, nil)
	find(t, nil, m, n-2, n-2, nil)
	find(t, nil, m, 0, n, nil)
	round(t, nil, m, nil)

	m, _ = mat.Set(m, n-1, 0)
	goes := append(slices.Clone(up), 0)
	round(t, nil, m, goes)
	find(t, nil, m, n-1, n-1, append([]int{n - 1}, up...))
	if !path.Is(m, slices.Concat(up, up, up)) || path.Is(m, slices.Concat(up, up, up[1:])) {
		t.Error("Is of a way that goes round 3 times, or that goes by a number less")
	}

	down := slices.Clone(up)
	slices.Reverse(down)
	m = drawn(n, func(i, j int) bool { return j == i-1 }).made()
	find(t, nil, m, n-1, 0, down)
	m, _ = mat.Set(m, n-1, n-1)
	round(t, nil, m, []int{n - 1, n - 1})

	m = drawn(n, func(i, j int) bool { return i != j }).made()
	find(t, nil, m, n-1, n-2, []int{n - 1, n - 2})
	find(t, nil, m, n-1, n-1, []int{n - 1, 0, n - 1})
	round(t, nil, m, []int{0, 1, 0})
	m = drawn(n, func(i, j int) bool { return i < j }).made()
	find(t, nil, m, 0, n-1, []int{0, n - 1})
}
