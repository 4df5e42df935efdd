package mat_test

import (
	"math"
	"slices"
	"testing"

	"eyewitness/api"
	"eyewitness/mat"
)

const all = math.MaxUint64

// lasting are the numbers of rows of the samples: around the ends of words.
var lasting = []int{0, 1, 2, 3, 5, 63, 64, 65, 127, 128, 129}

// wild are numbers of rows that no matrix has.
var wild = []int{math.MinInt, math.MinInt + 1, math.MinInt32, -4096, -64, -2, -1, api.MaxOps + 1, api.MaxOps + 64, 1 << 20, 1 << 32, 1<<32 + 2, 1 << 40, math.MaxInt - 1, math.MaxInt}

// outside are numbers that no row of a matrix of n rows has: among them those
// of bits that its words have beyond n.
func outside(n int) []int {
	return []int{math.MinInt, math.MinInt + 1, math.MinInt32, -65, -64, -63, -2, -1, n, n + 1, n + 63, n + 64, n + 65, 1 << 32, 1<<32 + 1, math.MaxInt - 1, math.MaxInt}
}

// made is the matrix of n rows that has the pairs that has says: made by sums
// alone, without the layer itself.
func made(n int, has func(i, j int) bool) api.Mat {
	m := api.Mat{N: n, Rows: make([][]uint64, n)}
	for i := range n {
		r := make([]uint64, (n+63)/64)
		for j := n - 1; j >= 0; j-- {
			r[j/64] *= 2
			if has(i, j) {
				r[j/64]++
			}
		}
		m.Rows[i] = r
	}
	return m
}

// asked tells whether m has the pair, of numbers that there are.
func asked(m api.Mat, i, j int) bool { return m.Rows[i][j/64]>>(j%64)%2 == 1 }

// without is m without the pair p, that it has.
func without(m api.Mat, p [2]int) api.Mat {
	rows := slices.Clone(m.Rows)
	rows[p[0]] = slices.Clone(rows[p[0]])
	rows[p[0]][p[1]/64] -= 1 << (p[1] % 64)
	return api.Mat{N: m.N, Rows: rows}
}

// listed is the pairs of m, asked one by one.
func listed(m api.Mat) [][2]int {
	var pairs [][2]int
	for i := range m.N {
		for j := range m.N {
			if asked(m, i, j) {
				pairs = append(pairs, [2]int{i, j})
			}
		}
	}
	return pairs
}

// of is matrices of n rows of all kinds: without pairs and with all, each
// itself, a side of that, corners, and without a pattern, sparse and dense.
func of(n int) []api.Mat {
	kinds := []func(i, j int) bool{
		func(i, j int) bool { return false },
		func(i, j int) bool { return true },
		func(i, j int) bool { return i == j },
		func(i, j int) bool { return i < j },
		func(i, j int) bool { return i == 0 && j == n-1 },
		func(i, j int) bool { return i == n-1 && j == 0 },
		func(i, j int) bool { return i == n/2 },
		func(i, j int) bool { return j == n/2 },
	}
	x := uint64(0x9e3779b97f4a7c15) + uint64(n)
	for _, one := range []uint64{2, 3, 40} {
		kinds = append(kinds, func(i, j int) bool {
			x ^= x << 13
			x ^= x >> 7
			x ^= x << 17
			return x%one == 0
		})
	}
	var l []api.Mat
	for _, has := range kinds {
		l = append(l, made(n, has))
	}
	return l
}

func samples() []api.Mat {
	var l []api.Mat
	for _, n := range lasting {
		l = append(l, of(n)...)
	}
	return l
}

// small is the samples of which all numbers can be tried.
func small() []api.Mat {
	return slices.DeleteFunc(samples(), func(m api.Mat) bool { return m.N > 65 })
}

// equal tells whether both matrices are of the same words.
func equal(a, b api.Mat) bool {
	return a.N == b.N && slices.EqualFunc(a.Rows, b.Rows, slices.Equal[[]uint64])
}

// zero tells whether m is the zero matrix.
func zero(m api.Mat) bool { return m.N == 0 && len(m.Rows) == 0 }

// guarded is m with spare room behind its rows, and behind the words of each
// that holds something, and whether all of that is as it was.
func guarded(m api.Mat) (api.Mat, func() bool) {
	fence := func(r []uint64) []uint64 { return append(slices.Clone(r), 0x5a5a, 0, all)[:len(r)] }
	g := api.Mat{N: m.N}
	for _, r := range m.Rows {
		g.Rows = append(g.Rows, fence(r))
	}
	behind := fence([]uint64{7})
	g.Rows = append(g.Rows, behind, nil)[:m.N]
	rows := slices.Clone(g.Rows[:m.N+2])
	return g, func() bool {
		if !equal(g, m) || !slices.Equal(behind, []uint64{7}) || g.Rows[:m.N+2][m.N+1] != nil {
			return false
		}
		for i, r := range g.Rows[:m.N+1] {
			spare := r[len(r) : len(r)+3]
			if !slices.Equal(spare, []uint64{0x5a5a, 0, all}) || !one(r, rows[i]) {
				return false
			}
		}
		return true
	}
}

// one tells whether both rows, of one word at least, are the same memory.
func one(a, b []uint64) bool {
	a, b = a[:max(len(a), 1)], b[:max(len(b), 1)]
	return len(a) == len(b) && &a[0] == &b[0]
}

func TestExamples(t *testing.T) {
	m, err := mat.Of(2, [][2]int{{0, 1}})
	if err != api.OK || !equal(m, api.Mat{N: 2, Rows: [][]uint64{{2}, {0}}}) {
		t.Errorf("of 2 the pair 0, 1 makes %v, error %d; want the rows 2 and 0", m, err)
	}
}

// P3.1, Right: all samples, and the greatest matrices.
func TestRight(t *testing.T) {
	l := append(samples(), api.Mat{}, api.Mat{Rows: [][]uint64{}})
	for _, n := range []int{api.MaxOps - 1, api.MaxOps} {
		l = append(l, made(n, func(i, j int) bool { return j == n-1 || i == j }))
	}
	for _, m := range l {
		g, kept := guarded(m)
		if !mat.Right(g) {
			t.Errorf("Right of %d rows, %v: false", m.N, m.Rows)
		}
		if !kept() {
			t.Errorf("Right changed %v", m)
		}
	}
}

// P3.1, Right: N that is none, or isn't how many rows there are.
func TestRightWrongN(t *testing.T) {
	for _, n := range wild {
		for _, rows := range [][][]uint64{nil, {}, {{}}, {{0}}, {{0}, {0}}} {
			if mat.Right(api.Mat{N: n, Rows: rows}) {
				t.Errorf("Right of N %d with the rows %v: true", n, rows)
			}
		}
	}
	if mat.Right(made(api.MaxOps+1, func(i, j int) bool { return false })) {
		t.Error("Right of 4097 rows: true")
	}
	for _, m := range samples() {
		for _, n := range []int{m.N - 1, m.N + 1, -m.N - 1} {
			if mat.Right(api.Mat{N: n, Rows: m.Rows}) {
				t.Errorf("Right of N %d with %d rows: true", n, m.N)
			}
		}
	}
}

// P3.1, Right: a row of too few or too many words, be they without bits; and
// each single bit from N on. It may be any of the rows, the last one too.
func TestRightWrongRow(t *testing.T) {
	for _, n := range lasting {
		for _, m := range of(n) {
			for i, r := range m.Rows {
				bad := [][]uint64{nil, {}, r[:len(r)-1], append(slices.Clone(r), 0), append(slices.Clone(r), 1)}
				for k := n; k < 64*len(r); k++ {
					more := slices.Clone(r)
					more[k/64] += 1 << (k % 64)
					bad = append(bad, more)
				}
				for _, b := range bad {
					rows := slices.Clone(m.Rows)
					rows[i] = b
					if mat.Right(api.Mat{N: n, Rows: rows}) {
						t.Fatalf("Right of %d rows, of which the row %d is %#x: true", n, i, b)
					}
				}
			}
		}
	}
}

// P3.1, New.
func TestNew(t *testing.T) {
	for _, n := range append([]int{api.MaxOps - 1, api.MaxOps}, lasting...) {
		m, err := mat.New(n)
		if err != api.OK || !equal(m, made(n, func(i, j int) bool { return false })) {
			t.Errorf("New(%d): %d rows, error %d", n, len(m.Rows), err)
		}
	}
	for _, n := range wild {
		if m, err := mat.New(n); err != api.ErrArg || !zero(m) {
			t.Errorf("New(%d): %d rows, error %d; want ErrArg", n, len(m.Rows), err)
		}
	}
}

// The rows of a matrix that is new are not one another's, nor those of another
// one, and none has room that is the next one's.
func TestNewRowsAreTheirOwn(t *testing.T) {
	for _, n := range lasting {
		a, _ := mat.New(n)
		b, _ := mat.New(n)
		for i, r := range a.Rows {
			r[0] = uint64(i) + 1
			_ = append(r, all)
		}
		for i, r := range a.Rows {
			if r[0] != uint64(i)+1 || b.Rows[i][0] != 0 {
				t.Errorf("New(%d): the row %d is %d, that of another matrix %d", n, i, r[0], b.Rows[i][0])
			}
		}
	}
}

// P3.1, Has.
func TestHas(t *testing.T) {
	for _, m := range samples() {
		g, kept := guarded(m)
		for i := range m.N {
			for j := range m.N {
				if got, want := mat.Has(g, i, j), asked(m, i, j); got != want {
					t.Fatalf("Has(%v, %d, %d) = %v, want %v", m, i, j, got, want)
				}
			}
		}
		for _, o := range outside(m.N) {
			for _, k := range append(outside(m.N), 0, m.N/2, m.N-1) {
				if mat.Has(g, o, k) || mat.Has(g, k, o) {
					t.Fatalf("of %d rows there is no pair of %d and %d", m.N, o, k)
				}
			}
		}
		if !kept() {
			t.Fatalf("Has changed %v", m)
		}
	}
}

// P3.1, Set: one pair more, or one that it had.
func TestSet(t *testing.T) {
	for _, m := range small() {
		step := 1 + m.N/16
		for i := 0; i < m.N; i++ {
			for j := i % step; j < m.N; j += step {
				g, kept := guarded(m)
				want := made(m.N, func(k, l int) bool { return k == i && l == j || asked(m, k, l) })
				got, err := mat.Set(g, i, j)
				if err != api.OK || !equal(got, want) {
					t.Fatalf("Set(%v, %d, %d) = %v, error %d", m, i, j, got, err)
				}
				if !kept() {
					t.Fatalf("Set(.., %d, %d) changed %v", i, j, m)
				}
			}
		}
	}
}

// P3.1, Set: numbers that there aren't.
func TestSetWrong(t *testing.T) {
	for _, m := range samples() {
		g, kept := guarded(m)
		for _, o := range outside(m.N) {
			for _, k := range append(outside(m.N), 0, m.N/2, m.N-1) {
				a, errA := mat.Set(g, o, k)
				b, errB := mat.Set(g, k, o)
				if errA != api.ErrArg || errB != api.ErrArg || !zero(a) || !zero(b) {
					t.Fatalf("Set of %d and %d in %d rows: errors %d and %d, want ErrArg", o, k, m.N, errA, errB)
				}
			}
		}
		if !kept() {
			t.Fatalf("Set changed %v", m)
		}
	}
}

// The way of the layer: Set copies one row, and shares the others.
func TestSetSharesRows(t *testing.T) {
	for _, m := range small() {
		for i := range m.N {
			got, _ := mat.Set(m, i, m.N-1-i)
			for k, r := range got.Rows {
				if one(r, m.Rows[k]) != (k != i) {
					t.Fatalf("Set of the pair %d, %d: is the row %d shared? %v", i, m.N-1-i, k, k == i)
				}
			}
		}
	}
}

// Two matrices that are made of one know nothing of one another.
func TestSetTwice(t *testing.T) {
	m, _ := mat.New(70)
	a, _ := mat.Set(m, 3, 69)
	b, _ := mat.Set(a, 3, 0)
	c, _ := mat.Set(a, 4, 4)
	for _, x := range []struct {
		m    api.Mat
		want [][2]int
	}{{m, nil}, {a, [][2]int{{3, 69}}}, {b, [][2]int{{3, 0}, {3, 69}}}, {c, [][2]int{{3, 69}, {4, 4}}}} {
		if got := listed(x.m); !slices.Equal(got, x.want) {
			t.Errorf("the pairs are %v, want %v", got, x.want)
		}
	}
}

// P3.1, Of: in any order, and twice the same.
func TestOf(t *testing.T) {
	for _, m := range samples() {
		pairs := listed(m)
		mixed := append(slices.Clone(pairs), pairs[:len(pairs)/2]...)
		slices.Reverse(mixed)
		for _, l := range [][][2]int{pairs, mixed} {
			before := slices.Clone(l)
			if got, err := mat.Of(m.N, l); err != api.OK || !equal(got, m) {
				t.Fatalf("Of(%d, %v) = %v, error %d", m.N, l, got, err)
			}
			if !slices.Equal(l, before) {
				t.Fatalf("Of(%d, ..) made %v of %v", m.N, l, before)
			}
		}
	}
}

// P3.1, Of: one pair that is wrong among others, wherever it stands; and no
// such N, whatever the pairs.
func TestOfWrong(t *testing.T) {
	for _, n := range lasting {
		good := listed(made(n, func(i, j int) bool { return i == j }))
		for _, o := range outside(n) {
			for _, p := range [][2]int{{o, 0}, {0, o}, {o, o}, {o, n - 1}, {n - 1, o}} {
				for _, at := range []int{0, len(good) / 2, len(good)} {
					m, err := mat.Of(n, slices.Insert(slices.Clone(good), at, p))
					if err != api.ErrArg || !zero(m) {
						t.Fatalf("Of(%d, ..) with the pair %v: %d rows, error %d; want ErrArg", n, p, len(m.Rows), err)
					}
				}
			}
		}
	}
	for _, n := range wild {
		for _, l := range [][][2]int{nil, {{0, 0}}, {{0, 1}, {-1, 5}}} {
			if m, err := mat.Of(n, l); err != api.ErrArg || !zero(m) {
				t.Errorf("Of(%d, %v): %d rows, error %d; want ErrArg", n, l, len(m.Rows), err)
			}
		}
	}
}

// P3.1, Pairs.
func TestPairs(t *testing.T) {
	for _, m := range samples() {
		g, kept := guarded(m)
		if got, want := mat.Pairs(g), listed(m); !slices.Equal(got, want) {
			t.Fatalf("Pairs(%v) = %v, want %v", m, got, want)
		}
		if !kept() {
			t.Fatalf("Pairs changed %v", m)
		}
	}
}

// P3.1, Turn.
func TestTurn(t *testing.T) {
	for _, m := range samples() {
		g, kept := guarded(m)
		want := made(m.N, func(i, j int) bool { return asked(m, j, i) })
		if got := mat.Turn(g); !equal(got, want) {
			t.Fatalf("Turn(%v) = %v, want %v", m, got, want)
		}
		if !kept() {
			t.Fatalf("Turn changed %v", m)
		}
	}
}

// P3.1, Or.
func TestOr(t *testing.T) {
	for _, n := range lasting {
		for _, a := range of(n) {
			for _, b := range of(n) {
				guardedA, keptA := guarded(a)
				guardedB, keptB := guarded(b)
				want := made(n, func(i, j int) bool { return asked(a, i, j) || asked(b, i, j) })
				if got, err := mat.Or(guardedA, guardedB); err != api.OK || !equal(got, want) {
					t.Fatalf("Or(%v, %v) = %v, error %d", a, b, got, err)
				}
				if !keptA() || !keptB() {
					t.Fatalf("Or changed %v or %v", a, b)
				}
			}
		}
	}
}

// The way of the layer: Or shares rows that have all bits already.
func TestOrSharesRows(t *testing.T) {
	a := api.Mat{N: 4, Rows: [][]uint64{{3}, {1}, {2}, {6}}}
	b := api.Mat{N: 4, Rows: [][]uint64{{1}, {3}, {1}, {6}}}
	got, _ := mat.Or(a, b)
	if !one(got.Rows[0], a.Rows[0]) || !one(got.Rows[1], b.Rows[1]) || !one(got.Rows[3], a.Rows[3]) {
		t.Error("a row that has all bits already is copied")
	}
	if one(got.Rows[2], a.Rows[2]) || one(got.Rows[2], b.Rows[2]) || got.Rows[2][0] != 3 {
		t.Errorf("a row of bits of both is %v, or shared", got.Rows[2])
	}
}

// P3.1, Or, Sub and Same of matrices that have not one N: even where their
// rows have as many words, and no bits.
func TestUnlikeN(t *testing.T) {
	for _, n := range lasting {
		for _, k := range lasting {
			if n == k {
				continue
			}
			for _, a := range of(n) {
				for _, b := range of(k) {
					if m, err := mat.Or(a, b); err != api.ErrArg || !zero(m) {
						t.Fatalf("Or of %d and of %d rows: %d rows, error %d; want ErrArg", n, k, len(m.Rows), err)
					}
					if mat.Sub(a, b) || mat.Same(a, b) {
						t.Fatalf("of %d and of %d rows: Sub = %v, Same = %v", n, k, mat.Sub(a, b), mat.Same(a, b))
					}
				}
			}
		}
	}
}

// P3.1, Sub and Same: matrices of all kinds, and with one pair less or more.
func TestSubAndSame(t *testing.T) {
	for _, n := range lasting {
		for _, a := range of(n) {
			for _, b := range of(n) {
				sub := !slices.ContainsFunc(listed(a), func(p [2]int) bool { return !asked(b, p[0], p[1]) })
				if got := mat.Sub(a, b); got != sub {
					t.Fatalf("Sub(%v, %v) = %v, want %v", a, b, got, sub)
				}
				if got, want := mat.Same(a, b), equal(a, b); got != want {
					t.Fatalf("Same(%v, %v) = %v, want %v", a, b, got, want)
				}
			}
		}
	}
	for _, m := range samples() {
		for _, p := range listed(m) {
			less := without(m, p)
			if !mat.Sub(less, m) || mat.Sub(m, less) || mat.Same(m, less) || mat.Same(less, m) {
				t.Fatalf("%v and the same without %v: Sub = %v, the other way %v, Same = %v", m, p, mat.Sub(less, m), mat.Sub(m, less), mat.Same(m, less))
			}
		}
	}
}

// Sub and Same don't change what they are given.
func TestSubAndSameKeep(t *testing.T) {
	for _, m := range samples() {
		a, keptA := guarded(m)
		b, keptB := guarded(m)
		if !mat.Sub(a, b) || !mat.Same(a, b) || !mat.Same(a, a) || !keptA() || !keptB() {
			t.Fatalf("%v isn't the same as its copy, or changed", m)
		}
	}
	if !mat.Same(api.Mat{}, api.Mat{Rows: [][]uint64{}}) || !mat.Sub(api.Mat{Rows: [][]uint64{}}, api.Mat{}) {
		t.Error("matrices without rows are not the same")
	}
}

// P3.2: a matrix comes back of N and its pairs, be they set one by one, and
// matrices of one N and the same pairs are the same.
func TestMatrixIsKnownByPairs(t *testing.T) {
	for _, m := range samples() {
		pairs := mat.Pairs(m)
		back, err := mat.Of(m.N, pairs)
		up, _ := mat.New(m.N)
		down := up
		for k, p := range pairs {
			q := pairs[len(pairs)-1-k]
			up, _ = mat.Set(up, p[0], p[1])
			down, _ = mat.Set(down, q[0], q[1])
		}
		if err != api.OK || !mat.Same(back, m) || !mat.Same(up, m) || !mat.Same(down, m) {
			t.Fatalf("of the pairs of %v come %v, %v and %v", m, back, up, down)
		}
		if !mat.Right(back) || !mat.Right(up) || !mat.Right(down) {
			t.Fatalf("of the pairs of %v comes a matrix that may not be", m)
		}
	}
}

// P3.2: turned twice a matrix is as it was; turned once it has its pairs the
// other way round, and may be.
func TestTurnedTwice(t *testing.T) {
	for _, m := range samples() {
		u := mat.Turn(m)
		if !mat.Same(mat.Turn(u), m) || !mat.Right(u) {
			t.Fatalf("%v, turned twice, is %v", m, mat.Turn(u))
		}
		for _, p := range mat.Pairs(m) {
			if !mat.Has(u, p[1], p[0]) {
				t.Fatalf("%v, turned, lacks %d, %d", m, p[1], p[0])
			}
		}
		if len(mat.Pairs(u)) != len(mat.Pairs(m)) {
			t.Fatalf("%v, turned, has %d pairs", m, len(mat.Pairs(u)))
		}
	}
}

// What is laid over one another has both in it, and nothing else.
func TestOrHasBoth(t *testing.T) {
	for _, n := range lasting {
		l := of(n)
		for k, a := range l {
			b := l[(k*3+1)%len(l)]
			o, _ := mat.Or(a, b)
			p, _ := mat.Or(b, a)
			if !mat.Right(o) || !mat.Same(o, p) || !mat.Sub(a, o) || !mat.Sub(b, o) || mat.Sub(b, a) != mat.Same(o, a) {
				t.Fatalf("%v over %v is %v", a, b, o)
			}
		}
	}
}

// The greatest matrix: at its corners, and full.
func TestGreatest(t *testing.T) {
	last := api.MaxOps - 1
	corners := [][2]int{{0, 0}, {0, last}, {last, 0}, {last, last}}
	m, err := mat.Of(api.MaxOps, corners)
	if err != api.OK || !mat.Right(m) || !slices.Equal(mat.Pairs(m), corners) || !mat.Same(mat.Turn(m), m) {
		t.Errorf("the corners of 4096 rows: the pairs %v, error %d", mat.Pairs(m), err)
	}
	m, err = mat.Set(m, last, 2048)
	if err != api.OK || !mat.Has(m, last, 2048) || mat.Has(m, last, last+1) || !mat.Has(mat.Turn(m), 2048, last) {
		t.Errorf("the pair 4095, 2048: error %d", err)
	}
	full := made(api.MaxOps, func(i, j int) bool { return true })
	if got := len(mat.Pairs(full)); got != api.MaxOps*api.MaxOps {
		t.Errorf("a full matrix has %d pairs", got)
	}
	o, err := mat.Or(m, full)
	if err != api.OK || !mat.Same(o, full) || !mat.Same(mat.Turn(full), full) || !mat.Sub(m, full) || mat.Sub(full, m) {
		t.Errorf("a full matrix over another one isn't full: error %d", err)
	}
}
