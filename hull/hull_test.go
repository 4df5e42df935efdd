package hull_test

import (
	"math"
	"slices"
	"testing"

	"eyewitness/api"
	"eyewitness/hull"
	"eyewitness/mat"
)

// A table says of each pair whether it is there: matrices are made of tables,
// and what must come of them is worked out on tables, without the layer.
type table [][]bool

// lasting are the numbers of rows of the samples: around the ends of words.
var lasting = []int{5, 63, 64, 65, 127, 128, 129}

// outside are numbers that no row of a matrix of n rows has: among them those
// of bits that its words have beyond n, and those that are one of n when cut
// to fewer bits.
func outside(n int) []int {
	return []int{math.MinInt, math.MinInt + 1, math.MinInt32, -4096, -65, -64, -63, -2, -1, n, n + 1, n + 63, n + 64, n + 65, 1 << 32, 1<<32 + 1, math.MaxInt - 1, math.MaxInt}
}

func drawn(n int, has func(i, j int) bool) table {
	t := make(table, n)
	for i := range t {
		t[i] = make([]bool, n)
		for j := range t[i] {
			t[i][j] = has(i, j)
		}
	}
	return t
}

// made is the matrix of the table, by sums alone.
func (t table) made() api.Mat {
	n := len(t)
	m := api.Mat{N: n, Rows: make([][]uint64, n)}
	for i := range t {
		m.Rows[i] = make([]uint64, (n+63)/64)
		for j := n - 1; j >= 0; j-- {
			m.Rows[i][j/64] *= 2
			if t[i][j] {
				m.Rows[i][j/64]++
			}
		}
	}
	return m
}

// pairs are those of the table, by their numbers.
func (t table) pairs() [][2]int {
	var l [][2]int
	for i := range t {
		for j := range t {
			if t[i][j] {
				l = append(l, [2]int{i, j})
			}
		}
	}
	return l
}

// but is the table, in which the pair p is there, or isn't.
func (t table) but(p [2]int, there bool) table {
	return drawn(len(t), func(i, j int) bool {
		if [2]int{i, j} == p {
			return there
		}
		return t[i][j]
	})
}

// closed asks of each three numbers.
func (t table) closed() bool {
	for i := range t {
		for j := range t {
			for k := range t {
				if t[i][j] && t[j][k] && !t[i][k] {
					return false
				}
			}
		}
	}
	return true
}

// hull is whatever can be reached over one pair or more: walked from each
// number anew.
func (t table) hull() table {
	reached := make(table, len(t))
	for i := range t {
		reached[i] = make([]bool, len(t))
		for walk := []int{i}; len(walk) > 0; {
			from := walk[0]
			walk = walk[1:]
			for to, there := range t[from] {
				if there && !reached[i][to] {
					reached[i][to] = true
					walk = append(walk, to)
				}
			}
		}
	}
	return reached
}

// all is all tables of n rows.
func all(n int) []table {
	var l []table
	for code := range 1 << (n * n) {
		l = append(l, drawn(n, func(i, j int) bool { return code>>(i*n+j)%2 == 1 }))
	}
	return l
}

// small is all tables of up to 3 rows, and every so many of 4.
func small(step int) []table {
	l := slices.Concat(all(0), all(1), all(2), all(3))
	for k, t := range all(4) {
		if k%step == 0 {
			l = append(l, t)
		}
	}
	return l
}

// samples are tables of n rows of all kinds: without pairs and with all, ways
// up, down and round, trees, parts that know nothing of one another, a pair
// between the ends, and without a pattern, sparse and less so.
func samples(n int) []table {
	x := uint64(0x9e3779b97f4a7c15) + uint64(n)
	random := func(one uint64) func(i, j int) bool {
		return func(i, j int) bool {
			x ^= x << 13
			x ^= x >> 7
			x ^= x << 17
			return x%one == 0
		}
	}
	var l []table
	for _, has := range []func(i, j int) bool{
		func(i, j int) bool { return false },
		func(i, j int) bool { return true },
		func(i, j int) bool { return i == j },
		func(i, j int) bool { return i < j },
		func(i, j int) bool { return j == i+1 },
		func(i, j int) bool { return j == i-1 },
		func(i, j int) bool { return j == (i+1)%n },
		func(i, j int) bool { return j == (i+7)%n && i != 3 },
		func(i, j int) bool { return j > 0 && i == (j-1)/2 },
		func(i, j int) bool { return i%3 == j%3 && i < j },
		func(i, j int) bool { return i == n-1 && j == 0 },
		func(i, j int) bool { return i == 0 && j == n-1 || i == n-1 && j == n/2 },
		random(uint64(2 * n)), random(uint64(n)), random(uint64(n/2 + 1)), random(7),
	} {
		l = append(l, drawn(n, has))
	}
	return l
}

// large is the samples of all numbers of rows.
func large() []table {
	var l []table
	for _, n := range lasting {
		l = append(l, samples(n)...)
	}
	return l
}

// equal tells whether both matrices are of the same words.
func equal(a, b api.Mat) bool {
	return a.N == b.N && slices.EqualFunc(a.Rows, b.Rows, slices.Equal[[]uint64])
}

func zero(m api.Mat) bool { return m.N == 0 && len(m.Rows) == 0 }

// guarded is m with spare room behind its rows, and behind the words of each;
// and whether all of that is as it was.
func guarded(m api.Mat) (api.Mat, func() bool) {
	g := api.Mat{N: m.N, Rows: make([][]uint64, m.N, m.N+1)}
	for i, r := range m.Rows {
		g.Rows[i] = append(slices.Clone(r), 0x5a5a, 0)[:len(r)]
	}
	return g, func() bool {
		spare := func(r []uint64) bool { return slices.Equal(r[len(r):len(r)+2], []uint64{0x5a5a, 0}) }
		return equal(g, m) && g.Rows[:m.N+1][m.N] == nil && !slices.ContainsFunc(g.Rows, func(r []uint64) bool { return !spare(r) })
	}
}

// apart tells whether no row of m has words that are another one's, nor room
// behind it that is: m is spent by that.
func apart(m api.Mat) bool {
	for i, r := range m.Rows {
		for k := range r {
			r[k] = uint64(i) + 1
		}
		_ = append(r, math.MaxUint64)
	}
	for i, r := range m.Rows {
		if slices.ContainsFunc(r, func(w uint64) bool { return w != uint64(i)+1 }) {
			return false
		}
	}
	return true
}

func TestExamples(t *testing.T) {
	m := drawn(3, func(i, j int) bool { return j == i+1 }).made()
	want := api.Mat{N: 3, Rows: [][]uint64{{6}, {4}, {0}}}
	if got := hull.Close(m); !equal(got, want) {
		t.Errorf("the hull of 0, 1 and 1, 2 is %v, want %v", got, want)
	}
}

// P4.1, Closed.
func TestClosed(t *testing.T) {
	for _, x := range append(small(1), large()...) {
		m, kept := guarded(x.made())
		if got, want := hull.Closed(m), x.closed(); got != want {
			t.Fatalf("Closed(%v) = %v, want %v", x.pairs(), got, want)
		}
		if !kept() {
			t.Fatalf("Closed changed %v", x.pairs())
		}
	}
}

// P4.1, Closed: hulls, and hulls that lack one of their pairs, wherever.
func TestClosedButForOne(t *testing.T) {
	for _, n := range []int{5, 64, 65} {
		for _, x := range samples(n) {
			h := x.hull()
			if !hull.Closed(h.made()) {
				t.Fatalf("the hull of %v isn't closed", x.pairs())
			}
			pairs := h.pairs()
			for k := 0; k < len(pairs); k += 1 + len(pairs)/9 {
				less := h.but(pairs[k], false)
				if got, want := hull.Closed(less.made()), less.closed(); got != want {
					t.Fatalf("Closed of the hull of %v without %v = %v, want %v", x.pairs(), pairs[k], got, want)
				}
			}
		}
	}
}

// P4.1, Close.
func TestClose(t *testing.T) {
	for _, x := range append(small(1), large()...) {
		m, kept := guarded(x.made())
		got, want := hull.Close(m), x.hull().made()
		if !equal(got, want) {
			t.Fatalf("Close(%v) = %v, want %v", x.pairs(), got, want)
		}
		if !kept() {
			t.Fatalf("Close changed %v", x.pairs())
		}
		if !apart(got) || !kept() {
			t.Fatalf("Close(%v) shares a row", x.pairs())
		}
	}
}

// Matrices may share rows, with themselves too: what is joined in one of them
// must not be seen in another one.
func TestSharedRows(t *testing.T) {
	for _, r := range [][]uint64{{0}, {1}, {2}, {4}, {6}, {7}} {
		m := api.Mat{N: 3, Rows: [][]uint64{r, {4}, r}}
		x := drawn(3, func(i, j int) bool { return m.Rows[i][0]>>j%2 == 1 })
		before := r[0]
		if got, want := hull.Close(m), x.hull().made(); !equal(got, want) || r[0] != before {
			t.Errorf("Close of the rows %d, 4, %d: %v, want %v; the row is %v", before, before, got, want, r)
		}
		if got := hull.Within(m, []int{0, 2}); got.Rows[0][0] != before&5 || got.Rows[2][0] != before&5 || got.Rows[1][0] != 0 || r[0] != before {
			t.Errorf("Within of the rows %d, 4, %d: %v; the row is %v", before, before, got, r)
		}
	}
}

// P4.1, Add: each pair to each closed matrix of up to 4 rows.
func TestAdd(t *testing.T) {
	for _, x := range small(1) {
		if !x.closed() {
			continue
		}
		for i := range x {
			for j := range x {
				addOne(t, x, i, j)
			}
		}
	}
}

// P4.1, Add: to hulls of more rows, pairs of numbers around the ends of words.
func TestAddLarge(t *testing.T) {
	for _, n := range lasting {
		for _, x := range samples(n) {
			h := x.hull()
			for _, i := range []int{0, 3, 63, 64, n - 1} {
				for _, j := range []int{n - 1, 64, n / 2, 0} {
					if i < n && j < n {
						addOne(t, h, i, j)
					}
				}
			}
		}
	}
}

// addOne holds one call of Add against the table.
func addOne(t *testing.T, x table, i, j int) {
	t.Helper()
	m, kept := guarded(x.made())
	want := x.but([2]int{i, j}, true).hull().made()
	got, err := hull.Add(m, i, j)
	if err != api.OK || !equal(got, want) {
		t.Fatalf("Add(%v, %d, %d) = %v, error %d; want %v", x.pairs(), i, j, got, err, want)
	}
	if !kept() {
		t.Fatalf("Add(%v, %d, %d) changed it", x.pairs(), i, j)
	}
	if !apart(got) {
		t.Fatalf("Add(%v, %d, %d) has one row twice", x.pairs(), i, j)
	}
}

// P4.1, Add: numbers that there aren't.
func TestAddWrong(t *testing.T) {
	for _, n := range append([]int{0, 1, 2, 3}, lasting...) {
		m, kept := guarded(drawn(n, func(i, j int) bool { return i < j }).made())
		for _, o := range outside(n) {
			for _, k := range append(outside(n), 0, n/2, n-1) {
				a, errA := hull.Add(m, o, k)
				b, errB := hull.Add(m, k, o)
				if errA != api.ErrArg || errB != api.ErrArg || !zero(a) || !zero(b) {
					t.Fatalf("Add of %d and %d in %d rows: errors %d and %d, want ErrArg", o, k, n, errA, errB)
				}
			}
		}
		if !kept() {
			t.Fatalf("Add changed a matrix of %d rows", n)
		}
	}
}

// What comes of a matrix by Add knows nothing of what else comes of it.
func TestAddTwice(t *testing.T) {
	m := drawn(66, func(i, j int) bool { return i == 64 && j == 65 }).made()
	a, _ := hull.Add(m, 0, 64)
	b, _ := hull.Add(a, 65, 1)
	c, _ := hull.Add(a, 64, 0)
	for _, x := range []struct {
		m    api.Mat
		want [][2]int
	}{
		{m, [][2]int{{64, 65}}},
		{a, [][2]int{{0, 64}, {0, 65}, {64, 65}}},
		{b, [][2]int{{0, 1}, {0, 64}, {0, 65}, {64, 1}, {64, 65}, {65, 1}}},
		{c, [][2]int{{0, 0}, {0, 64}, {0, 65}, {64, 0}, {64, 64}, {64, 65}}},
	} {
		if got := mat.Pairs(x.m); !slices.Equal(got, x.want) {
			t.Errorf("the pairs are %v, want %v", got, x.want)
		}
	}
}

// P4.1, Loop: of matrices that are closed, and of others: a way round counts
// only where a number is paired with itself.
func TestLoop(t *testing.T) {
	for _, x := range append(small(1), large()...) {
		m, kept := guarded(x.made())
		want := slices.IndexFunc(x.pairs(), func(p [2]int) bool { return p[0] == p[1] })
		i, round := hull.Loop(m)
		if want < 0 && (i != 0 || round) || want >= 0 && (i != x.pairs()[want][0] || !round) {
			t.Fatalf("Loop(%v) = %d, %v", x.pairs(), i, round)
		}
		if !kept() {
			t.Fatalf("Loop changed %v", x.pairs())
		}
	}
}

// P4.1, Loop: one number alone, wherever it stands; and the lesser one of two.
func TestLoopOfOne(t *testing.T) {
	for _, n := range lasting {
		for a := range n {
			one := drawn(n, func(i, j int) bool { return i == a && j == a })
			if i, round := hull.Loop(one.made()); i != a || !round {
				t.Fatalf("Loop of the pair %d, %d of %d rows = %d, %v", a, a, n, i, round)
			}
			two := one.but([2]int{n - 1, n - 1}, true)
			if i, round := hull.Loop(two.made()); i != a || !round {
				t.Fatalf("Loop of the pairs of %d and of %d = %d, %v", a, n-1, i, round)
			}
		}
	}
}

// withinOne holds one call of Within against the table.
func withinOne(t *testing.T, x table, l []int) {
	t.Helper()
	m, kept := guarded(x.made())
	room := append(slices.Clone(l), 7, -7)
	want := drawn(len(x), func(i, j int) bool { return x[i][j] && slices.Contains(l, i) && slices.Contains(l, j) }).made()
	got := hull.Within(m, room[:len(l)])
	if !equal(got, want) {
		t.Fatalf("Within(%v, %v) = %v, want %v", x.pairs(), l, got, want)
	}
	if !kept() || !slices.Equal(room, append(slices.Clone(l), 7, -7)) {
		t.Fatalf("Within changed %v or %v", x.pairs(), l)
	}
	if !apart(got) {
		t.Fatalf("Within(%v, %v) has one row twice", x.pairs(), l)
	}
}

// P4.1, Within: each choice of numbers, rising, falling, and twice each, alone
// and beside numbers that there aren't.
func TestWithin(t *testing.T) {
	for _, x := range small(97) {
		for code := range 1 << len(x) {
			var l []int
			for i := range x {
				if code>>i%2 == 1 {
					l = append(l, i)
				}
			}
			down := slices.Clone(l)
			slices.Reverse(down)
			for _, some := range [][]int{l, down, append(slices.Clone(l), down...), slices.Concat(outside(len(x)), l, []int{-1, len(x)})} {
				withinOne(t, x, some)
			}
		}
	}
}

// P4.1, Within: of more rows.
func TestWithinLarge(t *testing.T) {
	for _, n := range lasting {
		for _, x := range samples(n) {
			lists := [][]int{nil, {}, outside(n), {0}, {n - 1, 0}, {n - 1, n - 1, n / 2, 0, 1}}
			for _, step := range []int{1, 2, 3} {
				var l []int
				for i := 0; i < n; i += step {
					l = append(l, i)
				}
				lists = append(lists, l, append(l, outside(n)...))
			}
			for _, l := range lists {
				withinOne(t, x, l)
			}
		}
	}
}

// P4.1, Within: a list that is far longer than the matrix.
func TestWithinLongList(t *testing.T) {
	l := make([]int, 1<<20)
	for k := range l {
		l[k] = k%3 - 1
	}
	full := drawn(65, func(i, j int) bool { return true })
	if got := mat.Pairs(hull.Within(full.made(), l)); !slices.Equal(got, [][2]int{{0, 0}, {0, 1}, {1, 0}, {1, 1}}) {
		t.Errorf("the pairs of 0 and 1 are %v", got)
	}
}

// P4.2: the hull has the matrix in it, is closed, and is in each closed matrix
// that has it in it: tried with all of up to 3 rows.
func TestHullIsLeast(t *testing.T) {
	for n := range 4 {
		var closed []api.Mat
		for _, x := range all(n) {
			if x.closed() {
				closed = append(closed, x.made())
			}
		}
		for _, x := range all(n) {
			m := x.made()
			h := hull.Close(m)
			if !mat.Right(h) || !mat.Sub(m, h) || !hull.Closed(h) {
				t.Fatalf("the hull of %v is %v", x.pairs(), h)
			}
			for _, c := range closed {
				if mat.Sub(m, c) && !mat.Sub(h, c) {
					t.Fatalf("the hull of %v has more than it must: %v does", x.pairs(), c)
				}
			}
		}
	}
}

// P4.2: a hull of more rows has the matrix in it, is closed, and is its own.
func TestHullOfMany(t *testing.T) {
	for _, x := range large() {
		m := x.made()
		h := hull.Close(m)
		if !mat.Right(h) || !mat.Sub(m, h) || !hull.Closed(h) || !mat.Same(hull.Close(h), h) {
			t.Fatalf("the hull of %v is %v", x.pairs(), h)
		}
	}
}

// grown is the hull of these pairs, added one by one.
func grown(t *testing.T, n int, pairs [][2]int) api.Mat {
	t.Helper()
	m, _ := mat.New(n)
	for _, p := range pairs {
		more, err := hull.Add(m, p[0], p[1])
		if err != api.OK || !mat.Sub(m, more) || !mat.Has(more, p[0], p[1]) {
			t.Fatalf("Add(%v, %d, %d) = %v, error %d", m, p[0], p[1], more, err)
		}
		m = more
	}
	return m
}

// P4.2: added one by one, in any order, pairs make the hull of all: tried with
// all orders of up to 4 pairs of 4 rows.
func TestAddedInAnyOrder(t *testing.T) {
	for _, x := range small(5) {
		pairs := x.pairs()
		if len(pairs) > 4 {
			continue
		}
		want := hull.Close(x.made())
		each(pairs, func(order [][2]int) {
			if got := grown(t, len(x), order); !mat.Same(got, want) {
				t.Fatalf("the pairs %v, one by one, make %v, want %v", order, got, want)
			}
		})
	}
}

// each calls say with each order of the pairs.
func each(pairs [][2]int, say func([][2]int)) {
	if len(pairs) == 0 {
		say(nil)
	}
	for k, p := range pairs {
		each(slices.Delete(slices.Clone(pairs), k, k+1), func(order [][2]int) { say(append([][2]int{p}, order...)) })
	}
}

// P4.2: the same for many pairs, in some orders: rising, falling, and in steps.
func TestManyAddedInSomeOrders(t *testing.T) {
	for _, n := range []int{5, 64, 65, 129} {
		for _, x := range samples(n) {
			up := x.pairs()
			if len(up) > 2*n {
				continue
			}
			want := hull.Close(x.made())
			down := slices.Clone(up)
			slices.Reverse(down)
			var steps [][2]int
			for first := range 7 {
				for k := first; k < len(up); k += 7 {
					steps = append(steps, up[k])
				}
			}
			for _, order := range [][][2]int{up, down, steps} {
				if got := grown(t, n, order); !mat.Same(got, want) {
					t.Fatalf("the pairs %v, one by one, make %v, want %v", order, got, want)
				}
			}
		}
	}
}

// The greatest matrix: a way over all its numbers, closed, and then round.
func TestGreatest(t *testing.T) {
	n := api.MaxOps
	way := drawn(n, func(i, j int) bool { return j == i+1 }).made()
	up := drawn(n, func(i, j int) bool { return i < j }).made()
	full := drawn(n, func(i, j int) bool { return true }).made()
	if h := hull.Close(way); !equal(h, up) || !hull.Closed(h) || hull.Closed(way) {
		t.Error("the hull of a way over 4096 rows isn't each before the next ones")
	}
	if _, round := hull.Loop(up); round {
		t.Error("a way over 4096 rows goes round")
	}
	round, err := hull.Add(up, n-1, 0)
	if i, ok := hull.Loop(round); err != api.OK || !equal(round, full) || i != 0 || !ok {
		t.Errorf("a way over 4096 rows, turned back, isn't all of them: error %d", err)
	}
	if !hull.Closed(full) || !equal(hull.Close(full), full) {
		t.Error("all pairs of 4096 rows aren't their own hull")
	}
	last, err := hull.Add(hull.Within(full, []int{-1, n}), n-1, n-1)
	if i, ok := hull.Loop(last); err != api.OK || i != n-1 || !ok || len(mat.Pairs(last)) != 1 {
		t.Errorf("the pair 4095, 4095 alone: Loop = %d, %v, error %d", i, ok, err)
	}
	if _, err := hull.Add(up, 0, n); err != api.ErrArg {
		t.Errorf("Add(.., 0, 4096): error %d, want ErrArg", err)
	}
	ends := mat.Pairs(hull.Within(full, []int{n, n - 1, 0, -1}))
	if !slices.Equal(ends, [][2]int{{0, 0}, {0, n - 1}, {n - 1, 0}, {n - 1, n - 1}}) {
		t.Errorf("the pairs of the ends of 4096 rows are %v", ends)
	}
}
