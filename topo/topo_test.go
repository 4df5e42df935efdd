package topo_test

import (
	"math"
	"slices"
	"testing"

	"eyewitness/api"
	"eyewitness/hull"
	"eyewitness/mat"
	"eyewitness/topo"
)

// A table says of each pair whether it is there: matrices are made of tables,
// and what must come of them is worked out on tables, without the layer.
type table [][]bool

// lasting are the numbers of rows of the samples: around the ends of words.
var lasting = []int{5, 63, 64, 65, 128, 129}

// outside are numbers that no row of a matrix of n rows has: among them those
// of bits that its words have beyond n, and those that are one of n when cut
// to fewer bits.
func outside(n int) []int {
	return []int{math.MinInt, math.MinInt + 1, math.MinInt32, -1 << 32, -4096, -65, -64, -63, -3, -2, -1, n, n + 1, n + 63, n + 64, n + 65, 1 << 32, 1<<32 + 1, 1 << 62, math.MaxInt - 63, math.MaxInt - 1, math.MaxInt}
}

func drawn(n int, has func(i, j int) bool) table {
	t := make(table, n)
	for i := range t {
		t[i] = make([]bool, n)
		for j := range t[i] {
			t[i][j] = has(i, j)
		}
	}
	return t
}

// of is the table of n rows that has these pairs.
func of(n int, pairs ...[2]int) table {
	return drawn(n, func(i, j int) bool { return slices.Contains(pairs, [2]int{i, j}) })
}

// made is the matrix of the table, by sums alone.
func (t table) made() api.Mat {
	n := len(t)
	m := api.Mat{N: n, Rows: make([][]uint64, n)}
	for i := range t {
		m.Rows[i] = make([]uint64, (n+63)/64)
		for j := n - 1; j >= 0; j-- {
			m.Rows[i][j/64] *= 2
			if t[i][j] {
				m.Rows[i][j/64]++
			}
		}
	}
	return m
}

// pairs are those of the table, by their numbers.
func (t table) pairs() [][2]int {
	var l [][2]int
	for i := range t {
		for j := range t {
			if t[i][j] {
				l = append(l, [2]int{i, j})
			}
		}
	}
	return l
}

// has tells whether the pair is there, be there such numbers or not.
func (t table) has(i, j int) bool {
	return i >= 0 && i < len(t) && j >= 0 && j < len(t) && t[i][j]
}

// respected tells it by the words alone: no two that stand the other way
// round, or are one, are a pair.
func (t table) respected(l []int) bool {
	for b := range l {
		for a := range l[:b+1] {
			if t.has(l[b], l[a]) {
				return false
			}
		}
	}
	return true
}

// wrong tells whether a number of l is beyond those below n, or there twice.
func wrong(l []int, n int) bool {
	for k, i := range l {
		if i < 0 || i >= n || slices.Contains(l[:k], i) {
			return true
		}
	}
	return false
}

// first is the first order of l, and whether there is one, by the words alone:
// again and again all that are left are asked which of them may go next.
func (t table) first(l []int) ([]int, bool) {
	left := slices.Clone(l)
	slices.Sort(left)
	var order []int
	for len(left) > 0 {
		k := slices.IndexFunc(left, func(j int) bool {
			return !slices.ContainsFunc(left, func(i int) bool { return t[i][j] })
		})
		if k < 0 {
			return nil, false
		}
		order = append(order, left[k])
		left = slices.Delete(left, k, k+1)
	}
	return order, true
}

// tried is, of all orders of l that respect the table, the one that stands
// first, number by number; and whether there is one.
func (t table) tried(l []int) ([]int, bool) {
	left := slices.Clone(l)
	slices.Sort(left)
	var found []int
	var more func(order, left []int) bool
	more = func(order, left []int) bool {
		if len(left) == 0 && t.respected(order) {
			found = slices.Clone(order)
			return true
		}
		for k, i := range left {
			if more(append(slices.Clone(order), i), slices.Delete(slices.Clone(left), k, k+1)) {
				return true
			}
		}
		return false
	}
	ok := more(nil, left)
	return found, ok
}

// lists calls each for all lists of up to most numbers, from low to below top.
func lists(most, low, top int, each func([]int)) {
	var more func(l []int)
	more = func(l []int) {
		each(l)
		for i := low; i < top && len(l) < most; i++ {
			more(append(slices.Clone(l), i))
		}
	}
	more(nil)
}

// all is all tables of n rows, or every so many of them.
func all(n, step int) []table {
	var l []table
	for code := 0; code < 1<<(n*n); code += step {
		l = append(l, drawn(n, func(i, j int) bool { return code>>(i*n+j)%2 == 1 }))
	}
	return l
}

// small is all tables of up to 3 rows, and every so many of 4.
func small(step int) []table {
	return slices.Concat(all(0, 1), all(1, 1), all(2, 1), all(3, 1), all(4, step))
}

// chance is whether something holds, once of so many times, by a fixed rule
// without a pattern.
func chance(seed uint64) func(one uint64) bool {
	x := 0x9e3779b97f4a7c15 + seed
	return func(one uint64) bool {
		x ^= x << 13
		x ^= x >> 7
		x ^= x << 17
		return x%one == 0
	}
}

// samples are tables of n rows of all kinds: without pairs and with all, ways
// up, down and round, trees, layers, parts that know nothing of one another,
// closed ones, rounds at one place alone, one that waits for all others, and
// without a pattern, sparse and dense.
func samples(n int) []table {
	random := chance(uint64(n))
	place := mixed(n)
	var l []table
	for _, has := range []func(i, j int) bool{
		func(i, j int) bool { return false },
		func(i, j int) bool { return true },
		func(i, j int) bool { return i == j },
		func(i, j int) bool { return i != j },
		func(i, j int) bool { return i < j },
		func(i, j int) bool { return i > j },
		func(i, j int) bool { return j == i+1 },
		func(i, j int) bool { return j == i-1 },
		func(i, j int) bool { return j == (i+1)%n },
		func(i, j int) bool { return i == n-1 && j == n-1 },
		func(i, j int) bool { return i == 0 && j == 0 || i < j },
		func(i, j int) bool { return i == 0 && j == n-1 || i > j },
		func(i, j int) bool { return j == 0 && i > 0 },
		func(i, j int) bool { return i == n-1 && j < i },
		func(i, j int) bool { return j > 0 && i == (j-1)/2 },
		func(i, j int) bool { return i > 0 && j == (i-1)/2 },
		func(i, j int) bool { return i/4 == j/4+1 },
		func(i, j int) bool { return i%3 == j%3 && i < j },
		func(i, j int) bool { return i%3 == j%3 && i > j },
		func(i, j int) bool { return place[i] < place[j] },
		func(i, j int) bool { return place[i]+1 == place[j] },
		func(i, j int) bool { return place[i] < place[j] && random(2) },
		func(i, j int) bool { return place[i] < place[j] && random(7) },
		func(i, j int) bool { return place[i] < place[j] && random(uint64(n)) },
		func(i, j int) bool { return random(uint64(n)) },
		func(i, j int) bool { return random(uint64(n * n / 4)) },
	} {
		l = append(l, drawn(n, has))
	}
	return l
}

// mixed is the numbers from 0 to below n, mixed by a fixed rule.
func mixed(n int) []int {
	l := rising(n)
	random := chance(uint64(3 * n))
	for range 3 {
		for i := range l {
			j := 0
			for j < n-1 && !random(uint64(n/2+1)) {
				j++
			}
			l[i], l[j] = l[j], l[i]
		}
	}
	return l
}

// rising is the numbers from 0 to below n.
func rising(n int) []int {
	l := make([]int, n)
	for i := range l {
		l[i] = i
	}
	return l
}

// falling is the numbers from 0 to below n, the greatest one first.
func falling(n int) []int {
	l := rising(n)
	slices.Reverse(l)
	return l
}

// some are lists of numbers below n: all of them, in some orders, and parts.
func some(n int) [][]int {
	l := [][]int{nil, {0}, {n - 1}, {n - 1, 0}, rising(n), falling(n), mixed(n), falling(n)[1:], mixed(n)[n/2:], mixed(n)[:n/3]}
	var even []int
	for i := 0; i < n; i += 2 {
		even = append(even, i)
	}
	return append(l, even)
}

// brief is what a list begins with.
func brief[T any](l []T) []T { return l[:min(len(l), 24)] }

// fenced is a copy of l with spare room behind it.
func fenced[T any](l []T, spare T) []T { return append(slices.Clone(l), spare, spare)[:len(l)] }

// guarded is m with spare room behind its rows, and behind the words of each,
// that holds pairs; and whether all of that is as it was.
func guarded(m api.Mat) (api.Mat, func() bool) {
	g := api.Mat{N: m.N}
	for _, r := range m.Rows {
		g.Rows = append(g.Rows, fenced(r, math.MaxUint64))
	}
	spare := []uint64{math.MaxUint64}
	g.Rows = fenced(g.Rows, spare)
	whole := slices.Concat(m.Rows, [][]uint64{spare, spare})
	return g, func() bool {
		for _, r := range g.Rows {
			if behind := r[len(r) : len(r)+2]; behind[0] != math.MaxUint64 || behind[1] != math.MaxUint64 {
				return false
			}
		}
		return g.N == m.N && slices.EqualFunc(g.Rows[:m.N+2], whole, slices.Equal[[]uint64])
	}
}

// sorted holds one call of Sort against an order and an error.
func sorted(t *testing.T, x table, m api.Mat, l, want []int, wantErr api.Errno) {
	t.Helper()
	in := fenced(l, -7)
	got, err := topo.Sort(m, in)
	if err != wantErr || !slices.Equal(got, want) {
		t.Fatalf("of %d, %v: Sort(.., %v) = %v, %d; want %v, %d", m.N, brief(x.pairs()), brief(l), brief(got), err, brief(want), wantErr)
	}
	if behind := in[len(l) : len(l)+2]; !slices.Equal(in, l) || behind[0] != -7 || behind[1] != -7 {
		t.Fatalf("of %d, %v: Sort(.., %v) changed the list", m.N, brief(x.pairs()), brief(l))
	}
}

// sortedAs holds one call of Sort against what a rule says of the list.
func sortedAs(t *testing.T, x table, m api.Mat, l []int, rule func([]int) ([]int, bool)) {
	t.Helper()
	if wrong(l, m.N) {
		sorted(t, x, m, l, nil, api.ErrArg)
		return
	}
	want, ok := rule(l)
	if !ok {
		sorted(t, x, m, l, nil, api.ErrCycle)
		return
	}
	sorted(t, x, m, l, want, api.OK)
}

// respects holds one call of Respects against an answer.
func respects(t *testing.T, x table, m api.Mat, l []int, want bool) {
	t.Helper()
	in := fenced(l, 0)
	if got := topo.Respects(m, in); got != want {
		t.Fatalf("of %d, %v: Respects(.., %v) = %v, want %v", m.N, brief(x.pairs()), brief(l), got, want)
	}
	if behind := in[len(l) : len(l)+2]; !slices.Equal(in, l) || behind[0] != 0 || behind[1] != 0 {
		t.Fatalf("of %d, %v: Respects(.., %v) changed the list", m.N, brief(x.pairs()), brief(l))
	}
}

// perm holds one call of Perm against an answer.
func perm(t *testing.T, l []int, n int, want bool) {
	t.Helper()
	in := fenced(l, 0)
	if got := topo.Perm(in, n); got != want {
		t.Fatalf("Perm(%v, %d) = %v, want %v", brief(l), n, got, want)
	}
	if behind := in[len(l) : len(l)+2]; !slices.Equal(in, l) || behind[0] != 0 || behind[1] != 0 {
		t.Fatalf("Perm(%v, %d) changed the list", brief(l), n)
	}
}

func TestExample(t *testing.T) {
	x := of(3, [2]int{2, 0})
	for _, l := range [][]int{{0, 1, 2}, {2, 1, 0}, {1, 2, 0}} {
		sorted(t, x, x.made(), l, []int{1, 2, 0}, api.OK)
	}
	respects(t, x, x.made(), []int{1, 2, 0}, true)
	respects(t, x, x.made(), []int{1, 0, 2}, false)
}

// P15.1: answers that are written out.
func TestWrittenOut(t *testing.T) {
	// A lesser number that comes free goes ahead of a greater one that was free
	// before.
	x := of(6, [2]int{3, 0}, [2]int{3, 1}, [2]int{0, 4}, [2]int{5, 2})
	sorted(t, x, x.made(), rising(6), []int{3, 0, 1, 4, 5, 2}, api.OK)
	// Only pairs among the list count: 0 is ahead of 2 by way of 1 alone.
	x = of(3, [2]int{2, 1}, [2]int{1, 0})
	sorted(t, x, x.made(), []int{2, 0}, []int{0, 2}, api.OK)
	sorted(t, x, x.made(), []int{0, 1, 2}, []int{2, 1, 0}, api.OK)
	respects(t, x, x.made(), []int{0, 2}, true)
	// So it is with what goes round: only if all of the round are in the list.
	x = of(4, [2]int{0, 1}, [2]int{1, 2}, [2]int{2, 0}, [2]int{3, 3})
	sorted(t, x, x.made(), []int{2, 1}, []int{1, 2}, api.OK)
	sorted(t, x, x.made(), []int{2, 1, 0}, nil, api.ErrCycle)
	sorted(t, x, x.made(), []int{3}, nil, api.ErrCycle)
	sorted(t, x, x.made(), []int{1, 3}, nil, api.ErrCycle)
	respects(t, x, x.made(), []int{3}, false)
	// What may not be comes ahead of what goes round.
	sorted(t, x, x.made(), []int{3, 3}, nil, api.ErrArg)
	sorted(t, x, x.made(), []int{0, 1, 2, 3, -1}, nil, api.ErrArg)
	sorted(t, x, x.made(), []int{4, 0, 1, 2, 3}, nil, api.ErrArg)
	// Nothing at all.
	sorted(t, x, x.made(), nil, nil, api.OK)
	sorted(t, nil, api.Mat{}, nil, nil, api.OK)
	sorted(t, nil, api.Mat{}, []int{0}, nil, api.ErrArg)
	sorted(t, nil, api.Mat{}, []int{-1}, nil, api.ErrArg)
	respects(t, nil, api.Mat{}, nil, true)
	respects(t, nil, api.Mat{Rows: [][]uint64{}}, []int{0, 0, -1, 64}, true)
}

// P15.1, Sort: all matrices of up to 3 rows, and many of 4, with all lists of
// up to 4 numbers, those that may not be among them.
func TestSort(t *testing.T) {
	for _, x := range small(211) {
		m, kept := guarded(x.made())
		lists(4, -1, len(x)+1, func(l []int) { sortedAs(t, x, m, l, x.first) })
		if !kept() {
			t.Fatalf("Sort changed %v", x.pairs())
		}
	}
}

// P15.1, Sort: all numbers of matrices of 4 rows, and lists that lack one.
func TestSortOfFour(t *testing.T) {
	for _, x := range all(4, 3) {
		m, kept := guarded(x.made())
		for k := range 4 {
			sortedAs(t, x, m, slices.Delete([]int{2, 0, 3, 1}, k, k+1), x.first)
		}
		sortedAs(t, x, m, []int{3, 1, 0, 2}, x.first)
		if !kept() {
			t.Fatalf("Sort changed %v", x.pairs())
		}
	}
}

// P15.1, Sort: many rows.
func TestSortLarge(t *testing.T) {
	for _, n := range lasting {
		for _, x := range samples(n) {
			m, kept := guarded(x.made())
			for _, l := range some(n) {
				sortedAs(t, x, m, l, x.first)
			}
			if !kept() {
				t.Fatalf("Sort changed %v", brief(x.pairs()))
			}
		}
	}
}

// P15.1, Sort: a number that there is none of, or one that is there twice, at
// each place, be there an order of the others or not.
func TestSortOfWhatMayNotBe(t *testing.T) {
	for _, n := range []int{1, 2, 63, 64, 65, 128} {
		for _, x := range []table{
			drawn(n, func(i, j int) bool { return false }),
			drawn(n, func(i, j int) bool { return i < j }),
			drawn(n, func(i, j int) bool { return true }),
		} {
			m := x.made()
			for k := range n {
				for _, o := range append(outside(n), k/2) {
					sorted(t, x, m, slices.Insert(rising(n), k, o), nil, api.ErrArg)
				}
				for _, o := range outside(n) {
					l := falling(n)
					l[k] = o
					sorted(t, x, m, l, nil, api.ErrArg)
				}
			}
			for _, o := range outside(n) {
				sorted(t, x, m, []int{o}, nil, api.ErrArg)
				sorted(t, x, m, []int{o, o}, nil, api.ErrArg)
			}
		}
	}
}

// P15.1, Respects: all matrices of up to 3 rows, and some of 4, with all lists
// of up to 4 numbers, be they beyond those of the matrix, or there twice.
func TestRespects(t *testing.T) {
	for _, x := range small(1009) {
		m, kept := guarded(x.made())
		lists(4, -1, len(x)+1, func(l []int) { respects(t, x, m, l, x.respected(l)) })
		if !kept() {
			t.Fatalf("Respects changed %v", x.pairs())
		}
	}
}

// P15.1, Respects: many rows; of each sample an order that respects it, if
// there is one, and the same with two numbers that have changed places.
func TestRespectsLarge(t *testing.T) {
	for _, n := range lasting {
		for _, x := range samples(n) {
			m, kept := guarded(x.made())
			for _, l := range some(n) {
				respects(t, x, m, l, x.respected(l))
			}
			l, _ := x.first(rising(n))
			for a := range l {
				for _, b := range []int{0, a / 2, len(l) / 2, len(l) - 1} {
					k := slices.Clone(l)
					k[a], k[b] = k[b], k[a]
					respects(t, x, m, k, x.respected(k))
				}
			}
			if !kept() {
				t.Fatalf("Respects changed %v", brief(x.pairs()))
			}
		}
	}
}

// P15.1, Respects: numbers beyond those of the matrix are in no pair, wherever
// they stand.
func TestRespectsOutside(t *testing.T) {
	for _, n := range []int{0, 1, 2, 63, 64, 65, 128} {
		full := drawn(n, func(i, j int) bool { return true })
		up := drawn(n, func(i, j int) bool { return i < j })
		respects(t, full, full.made(), append(outside(n), outside(n)...), true)
		for i := range n {
			respects(t, full, full.made(), slices.Concat(outside(n), []int{i}, outside(n)), false)
			respects(t, up, up.made(), slices.Concat(outside(n), []int{i}, outside(n)), true)
			for _, o := range outside(n) {
				l := slices.Insert(rising(n), i, o)
				respects(t, up, up.made(), l, true)
				slices.Reverse(l)
				respects(t, up, up.made(), l, n < 2)
			}
		}
	}
}

// P15.1, Perm: all lists of up to 5 numbers.
func TestPerm(t *testing.T) {
	lists(5, -1, 6, func(l []int) {
		for n := -2; n < 8; n++ {
			once := len(l) == n
			for i := range n {
				once = once && slices.Contains(l, i)
			}
			perm(t, l, n, once)
		}
	})
}

// P15.1, Perm: many numbers; one lacks, one is there twice, one is another.
func TestPermLarge(t *testing.T) {
	for _, n := range []int{1, 2, 63, 64, 65, 128, 129, 4096, 4097} {
		for _, l := range [][]int{rising(n), falling(n), mixed(n)} {
			perm(t, l, n, true)
			for _, o := range append(outside(n), 0, -n, n/2+n) {
				perm(t, l, o, o == n)
			}
			for _, k := range []int{0, n / 2, n - 1} {
				perm(t, slices.Delete(slices.Clone(l), k, k+1), n, false)
				perm(t, slices.Insert(slices.Clone(l), k, l[n-1-k]), n, false)
				for _, o := range append(outside(n), (l[k]+1)%n) {
					if o == l[k] {
						continue
					}
					other := slices.Clone(l)
					other[k] = o
					perm(t, other, n, false)
					perm(t, other, n+1, false)
				}
			}
		}
	}
}

// P15.1, Perm: numbers below which there are none, or too many to count; and
// as many as no matrix has.
func TestPermEnds(t *testing.T) {
	for _, n := range outside(0) {
		for _, l := range [][]int{nil, {}, {0}, {n}, {0, 0}, {n - 1}, {1, 0}} {
			one := len(l) == 1 && l[0] == 0
			perm(t, l, n, n == 0 && len(l) == 0 || n == 1 && one)
		}
	}
	perm(t, nil, 0, true)
	n := 1<<20 + 65
	l := falling(n)
	perm(t, l, n, true)
	l[n/2]++
	perm(t, l, n, false)
}

// P15.2: there is an order just where the pairs among l don't go round, and
// the first one respects them: of all that do the one that stands first.
func TestOrderWhereNothingGoesRound(t *testing.T) {
	for _, x := range small(7) {
		m := x.made()
		for code := range 1 << len(x) {
			l := slices.DeleteFunc(falling(len(x)), func(i int) bool { return code>>i%2 == 0 })
			want, is := x.tried(l)
			got, err := topo.Sort(m, l)
			if is != (err == api.OK) || is != !goesRound(m, l) || !slices.Equal(got, want) {
				t.Fatalf("%v: Sort(.., %v) = %v, %d; the first that respects them: %v, %v", x.pairs(), l, got, err, want, is)
			}
		}
	}
}

// goesRound tells whether the pairs among l do.
func goesRound(m api.Mat, l []int) bool {
	_, goes := hull.Loop(hull.Close(hull.Within(m, l)))
	return goes
}

// P15.2: many rows.
func TestOrderWhereNothingGoesRoundLarge(t *testing.T) {
	for _, n := range lasting {
		for _, x := range samples(n) {
			m := x.made()
			for _, l := range some(n) {
				got, err := topo.Sort(m, l)
				if (err == api.ErrCycle) != goesRound(m, l) {
					t.Fatalf("of %d, %v: Sort(.., %v): %d; goes round: %v", n, brief(x.pairs()), brief(l), err, goesRound(m, l))
				}
				if err != api.OK {
					continue
				}
				same := slices.Equal(slices.Sorted(slices.Values(got)), slices.Sorted(slices.Values(l)))
				if !same || !topo.Respects(m, got) || !x.respected(got) {
					t.Fatalf("of %d, %v: Sort(.., %v) = %v", n, brief(x.pairs()), brief(l), brief(got))
				}
			}
		}
	}
}

// The first order of all numbers has each once.
func TestFirstOrderIsPerm(t *testing.T) {
	for _, n := range lasting {
		for _, x := range samples(n) {
			if l, err := topo.Sort(x.made(), mixed(n)); topo.Perm(l, n) != (err == api.OK) {
				t.Fatalf("of %d, %v: Sort = %v, %d", n, brief(x.pairs()), brief(l), err)
			}
		}
	}
}

// Matrices may share rows, with themselves too.
func TestSharedRows(t *testing.T) {
	r := []uint64{1 << 1}
	m := api.Mat{N: 3, Rows: [][]uint64{r, {0}, r}}
	x := of(3, [2]int{0, 1}, [2]int{2, 1})
	sorted(t, x, m, rising(3), []int{0, 2, 1}, api.OK)
	respects(t, x, m, []int{2, 0, 1}, true)
	respects(t, x, m, []int{0, 1, 2}, false)
	if r[0] != 2 {
		t.Errorf("a row was changed: %d", r[0])
	}
}

// Answers are their own: what is done to one isn't seen in the next one, nor
// in the list that was handed in.
func TestAnswersAreTheirOwn(t *testing.T) {
	x := of(4, [2]int{3, 0})
	m, l := x.made(), []int{1, 2, 3, 0}
	for range 3 {
		sorted(t, x, m, l, []int{1, 2, 3, 0}, api.OK)
		got, _ := topo.Sort(m, l)
		clear(got[:cap(got)])
	}
}

// The greatest matrices: all of one number's counts are in use, up to 4096.
func TestGreatest(t *testing.T) {
	n := api.MaxOps
	up, down := rising(n), falling(n)
	m := drawn(n, func(i, j int) bool { return true }).made()
	sorted(t, nil, m, up, nil, api.ErrCycle)
	sorted(t, nil, m, []int{n - 1}, nil, api.ErrCycle)
	respects(t, nil, m, []int{n - 1}, false)
	// All wait for all others, and one for itself, too.
	m = drawn(n, func(i, j int) bool { return i != j || i == n/2 }).made()
	sorted(t, nil, m, up, nil, api.ErrCycle)
	sorted(t, nil, m, []int{n - 1}, []int{n - 1}, api.OK)
	// One alone waits, for all and itself; so all others may go.
	m = drawn(n, func(i, j int) bool { return j == 7 }).made()
	sorted(t, nil, m, down, nil, api.ErrCycle)
	sorted(t, nil, m, slices.Delete(rising(n), 7, 8), slices.Delete(rising(n), 7, 8), api.OK)

	m = drawn(n, func(i, j int) bool { return i > j }).made()
	sorted(t, nil, m, up, down, api.OK)
	respects(t, nil, m, down, true)
	respects(t, nil, m, up, false)
	respects(t, nil, m, append(slices.Clone(down), n-1), false)
	turned, _ := mat.Set(m, 0, n-1)
	sorted(t, nil, turned, up, nil, api.ErrCycle)
	sorted(t, nil, turned, up[1:], down[:n-1], api.OK)
	respects(t, nil, turned, down, false)

	m = drawn(n, func(i, j int) bool { return i < j }).made()
	sorted(t, nil, m, down, up, api.OK)
	sorted(t, nil, m, append(slices.Clone(down), n), nil, api.ErrArg)
	sorted(t, nil, m, append(slices.Clone(down), 0), nil, api.ErrArg)
	respects(t, nil, m, up, true)
	m = drawn(n, func(i, j int) bool { return j == i+1 }).made()
	sorted(t, nil, m, down, up, api.OK)
	respects(t, nil, m, up, true)

	place := mixed(n)
	order := make([]int, n)
	for i, k := range place {
		order[k] = i
	}
	m = drawn(n, func(i, j int) bool { return place[i] < place[j] }).made()
	sorted(t, nil, m, up, order, api.OK)
	respects(t, nil, m, order, true)
	order[n/2], order[n/2+1] = order[n/2+1], order[n/2]
	respects(t, nil, m, order, false)
}

// Layers above ask for thousands of orders of the greatest matrices, and hold
// thousands against them: that mustn't take long.
func TestManyOfTheGreatest(t *testing.T) {
	n := api.MaxOps
	m := drawn(n, func(i, j int) bool { return i > j }).made()
	up, down := rising(n), falling(n)
	for range 200 {
		sorted(t, nil, m, up, down, api.OK)
		respects(t, nil, m, down, true)
	}
}
