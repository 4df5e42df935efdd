package past_test

import (
	"fmt"
	"math"
	"reflect"
	"slices"
	"testing"

	"eyewitness/api"
	"eyewitness/cause"
	"eyewitness/differ"
	"eyewitness/hull"
	"eyewitness/intern"
	"eyewitness/mat"
	"eyewitness/origin"
	"eyewitness/past"
	"eyewitness/row"
	"eyewitness/session"
)

// A table says of each pair whether it is there: matrices are made of tables,
// and what must come of them is worked out on tables, without the layer.
type table [][]bool

func drawn(n int, has func(i, j int) bool) table {
	t := make(table, n)
	for i := range t {
		t[i] = make([]bool, n)
		for j := range t[i] {
			t[i][j] = has(i, j)
		}
	}
	return t
}

// of is the table of n rows that has these pairs.
func of(n int, pairs ...[2]int) table {
	return drawn(n, func(i, j int) bool { return slices.Contains(pairs, [2]int{i, j}) })
}

// made is the matrix of the table, by sums alone. Its rows, and the words of
// each, have spare room behind them that holds pairs.
func (t table) made() api.Mat {
	n := len(t)
	spare := slices.Repeat([]uint64{math.MaxUint64}, n/64+2)
	rows := slices.Repeat([][]uint64{spare}, n+2)
	for i := range t {
		words := slices.Repeat([]uint64{math.MaxUint64}, (n+63)/64+2)
		clear(words[:(n+63)/64])
		for j := n - 1; j >= 0; j-- {
			words[j/64] *= 2
			if t[i][j] {
				words[j/64]++
			}
		}
		rows[i] = words[:(n+63)/64]
	}
	return api.Mat{N: n, Rows: rows[:n]}
}

// whole is all that stands in m and in the spare room behind, in new memory.
func whole(m api.Mat) [][]uint64 {
	var l [][]uint64
	for _, r := range m.Rows[:cap(m.Rows)] {
		l = append(l, slices.Clone(r[:cap(r)]))
	}
	return l
}

// ahead are the numbers that are ahead of o, by the table; those with is true
// of, too.
func (t table) ahead(o int, with func(i int) bool) []int {
	var l []int
	if o < 0 || o >= len(t) {
		return nil
	}
	for i := range t {
		if t[i][o] || with(i) {
			l = append(l, i)
		}
	}
	return l
}

// outside are numbers that no row of a matrix of n rows has, and no item: among
// them those of bits that words have beyond n, and those that are one of n when
// cut to fewer bits.
func outside(n int) []int {
	return []int{math.MinInt, math.MinInt + 1, math.MinInt32, -1 << 32, -4096, -65, -64, -63, -3, -2, -1, n, n + 1, n + 63, n + 64, n + 65, 1 << 32, 1<<32 + 1, 1 << 62, math.MaxInt - 63, math.MaxInt - 1, math.MaxInt}
}

// chance is whether something holds, once of so many times, by a fixed rule
// without a pattern.
func chance(seed uint64) func(one uint64) bool {
	x := 0x9e3779b97f4a7c15 + seed
	return func(one uint64) bool {
		x ^= x << 13
		x ^= x >> 7
		x ^= x << 17
		return x%one == 0
	}
}

// samples are tables of n rows of all kinds: without pairs and with all, ways
// up, down and round, columns and rows alone, and without a pattern.
func samples(n int) []table {
	random := chance(uint64(n))
	var l []table
	for _, has := range []func(i, j int) bool{
		func(i, j int) bool { return false },
		func(i, j int) bool { return true },
		func(i, j int) bool { return i == j },
		func(i, j int) bool { return i != j },
		func(i, j int) bool { return i < j },
		func(i, j int) bool { return i > j },
		func(i, j int) bool { return j == (i+1)%n },
		func(i, j int) bool { return i == 0 },
		func(i, j int) bool { return i == n-1 },
		func(i, j int) bool { return j == 0 },
		func(i, j int) bool { return j == n-1 },
		func(i, j int) bool { return i%3 == j%3 && i < j },
		func(i, j int) bool { return random(2) },
		func(i, j int) bool { return random(7) },
		func(i, j int) bool { return random(uint64(n)) },
	} {
		l = append(l, drawn(n, has))
	}
	return l
}

// same holds what a call answered against what must come.
func same(t *testing.T, call string, got []int, want ...int) {
	t.Helper()
	if !slices.Equal(got, want) {
		t.Fatalf("%s = %d numbers %v, want %d %v", call, len(got), got[:min(24, len(got))], len(want), want[:min(24, len(want))])
	}
}

// pasts holds Of and With of all numbers of a table, and of what is outside,
// against the words.
func pasts(t *testing.T, x table) {
	t.Helper()
	m := x.made()
	before := whole(m)
	asked := outside(len(x))
	for o := range x {
		asked = append(asked, o)
	}
	for _, o := range asked {
		call := fmt.Sprintf("of %d rows with %d pairs, past of %d", m.N, len(mat.Pairs(m)), o)
		same(t, call, past.Of(m, o), x.ahead(o, func(int) bool { return false })...)
		same(t, call+" with it", past.With(m, o), x.ahead(o, func(i int) bool { return i == o })...)
	}
	if !reflect.DeepEqual(whole(m), before) {
		t.Fatalf("a matrix of %d rows was changed", m.N)
	}
}

// small calls each for all tables of up to 3 rows, and for every so many of 4.
func small(step int, each func(table)) {
	for n := range 5 {
		for code := 0; code < 1<<(n*n); code++ {
			if n < 4 || code%step == 0 {
				each(drawn(n, func(i, j int) bool { return code>>(i*n+j)&1 == 1 }))
			}
		}
	}
}

type history = [][]api.Op

// wr is a write, and rd a read.
func wr(name string, val int) api.Op { return api.Op{Write: true, Var: name, Val: val} }
func rd(name string, val int) api.Op { return api.Op{Var: name, Val: val} }

// facts are h, interned and whole; h must be differentiated.
func facts(t *testing.T, h history) api.Facts {
	t.Helper()
	f, err := intern.Of(h)
	if err != api.OK {
		t.Fatalf("Of of %d sessions = %d", len(h), err)
	}
	if i, j, err := differ.Check(f); err != api.OK {
		t.Fatalf("%s isn't differentiated: %d, %d, %d", brief(f), i, j, err)
	}
	return origin.Fill(f)
}

// brief is what f begins with.
func brief(f api.Facts) string {
	return fmt.Sprintf("{%d variables %.20q, %d items %v}", len(f.Vars), f.Vars[:min(4, len(f.Vars))], len(f.Items), f.Items[:min(8, len(f.Items))])
}

// writes holds one call of Writes against numbers, and what is handed in
// against what it was.
func writes(t *testing.T, f api.Facts, l []int, v int, want ...int) {
	t.Helper()
	in := append(slices.Clone(l), -7, 0)[:len(l)]
	same(t, fmt.Sprintf("Writes(%s, %v, %d)", brief(f), l[:min(24, len(l))], v), past.Writes(f, in, v), want...)
	if !slices.Equal(in[:len(l)+2], append(slices.Clone(l), -7, 0)) {
		t.Fatalf("Writes(%s, .., %d) changed the list: %v", brief(f), v, in[:len(l)+2])
	}
}

// written are the numbers of l that are writes to v, by the words alone.
func written(f api.Facts, l []int, v int) []int {
	var want []int
	for _, n := range l {
		for i, it := range f.Items {
			if i == n && it.Write && it.Var == v {
				want = append(want, n)
			}
		}
	}
	return want
}

// kept holds one call of Kept against numbers.
func kept(t *testing.T, f api.Facts, o int, want ...int) {
	t.Helper()
	same(t, fmt.Sprintf("Kept(%s, %d)", brief(f), o), past.Kept(f, o), want...)
}

// keeps holds Kept of all items, and of what is no item, against the words:
// each item against all others.
func keeps(t *testing.T, f api.Facts) {
	t.Helper()
	for o, a := range f.Items {
		var want []int
		for i, b := range f.Items {
			if !b.Write && b.Session == a.Session && b.Place <= a.Place {
				want = append(want, i)
			}
		}
		kept(t, f, o, want...)
	}
	for _, o := range outside(len(f.Items)) {
		kept(t, f, o)
	}
}

// cuts calls each for all histories of these operations, in this order, in
// sessions that aren't empty.
func cuts(ops []api.Op, each func(history)) {
	for mask := range 1 << max(len(ops)-1, 0) {
		var h history
		for i, o := range ops {
			if i == 0 || mask>>(i-1)&1 == 1 {
				h = append(h, nil)
			}
			h[len(h)-1] = append(h[len(h)-1], o)
		}
		each(h)
	}
}

// histories calls each for all differentiated histories of up to n operations
// on 2 variables: writes, reads of what is written, of the beginning, and out
// of thin air.
func histories(n int, each func(history)) {
	few := []api.Op{wr("x", 1), wr("x", 2), wr("y", 1), rd("x", 1), rd("y", 1), rd("x", 0), rd("y", 2)}
	var more func(ops []api.Op)
	more = func(ops []api.Op) {
		cuts(ops, each)
		for _, o := range few {
			if len(ops) < n && !(o.Write && slices.Contains(ops, o)) {
				more(append(slices.Clone(ops), o))
			}
		}
	}
	more(nil)
}

// lists calls each for all lists of up to most numbers, from low to below top.
func lists(most, low, top int, each func([]int)) {
	var more func(l []int)
	more = func(l []int) {
		each(l)
		for i := low; i < top && len(l) < most; i++ {
			more(append(slices.Clone(l), i))
		}
	}
	more(nil)
}

func TestExample(t *testing.T) {
	m := of(3, [2]int{0, 2}, [2]int{1, 2}).made()
	same(t, "Of", past.Of(m, 2), 0, 1)
	same(t, "With", past.With(m, 2), 0, 1, 2)
}

// P16.1, Of and With: answers that are written out.
func TestPastWrittenOut(t *testing.T) {
	// What is ahead by way of another number alone isn't in the past.
	m := of(5, [2]int{3, 1}, [2]int{1, 0}, [2]int{4, 0}, [2]int{2, 2}).made()
	same(t, "Of 0", past.Of(m, 0), 1, 4)
	same(t, "With 0", past.With(m, 0), 0, 1, 4)
	same(t, "Of 1", past.Of(m, 1), 3)
	same(t, "With 1", past.With(m, 1), 1, 3)
	same(t, "Of 3", past.Of(m, 3))
	same(t, "With 3", past.With(m, 3), 3)
	// What is ahead of itself is in its past, and with it there once.
	same(t, "Of 2", past.Of(m, 2), 2)
	same(t, "With 2", past.With(m, 2), 2)
	// There is no row of these numbers, though words have bits of some.
	for _, o := range []int{-1, 5, 63, 64} {
		same(t, "Of outside", past.Of(m, o))
		same(t, "With outside", past.With(m, o))
	}
	for _, empty := range []api.Mat{{}, {Rows: [][]uint64{}}} {
		for _, o := range []int{-1, 0, 1} {
			same(t, "Of without rows", past.Of(empty, o))
			same(t, "With without rows", past.With(empty, o))
		}
	}
}

// P16.1, Of and With: all matrices of up to 3 rows, and many of 4.
func TestPastSmall(t *testing.T) {
	small(7, func(x table) { pasts(t, x) })
}

// P16.1, Of and With: numbers around the ends of words.
func TestPastLarge(t *testing.T) {
	for _, n := range []int{5, 31, 32, 33, 63, 64, 65, 127, 128, 129} {
		for _, x := range samples(n) {
			pasts(t, x)
		}
	}
}

// P16.1, Of: a column is a row of the matrix turned about. Matrices that share
// rows, with themselves too, are as any others.
func TestPastIsARowTurned(t *testing.T) {
	for _, x := range append(samples(97), samples(64)...) {
		m := x.made()
		shared := api.Mat{N: m.N, Rows: slices.Repeat(m.Rows[m.N/2:m.N/2+1], m.N)}
		for _, m := range []api.Mat{m, shared} {
			turned := mat.Turn(m)
			for o := range m.N {
				same(t, "Of", past.Of(m, o), row.List(turned.Rows[o])...)
			}
		}
	}
}

// P16.1, Writes: answers that are written out.
func TestWritesWrittenOut(t *testing.T) {
	f := facts(t, history{{wr("y", 1), wr("x", 1), rd("x", 1)}, nil, {wr("x", -1), rd("y", 0)}, {wr("x", 7)}})
	// The variable 0 is y, that comes first, and 1 is x.
	writes(t, f, []int{0, 1, 2, 3, 4, 5}, 0, 0)
	writes(t, f, []int{0, 1, 2, 3, 4, 5}, 1, 1, 3, 5)
	// In the list's order; what is there twice stays so; what isn't there isn't
	// answered.
	writes(t, f, []int{5, 0, 3, 2, 5, 5}, 1, 5, 3, 5, 5)
	writes(t, f, []int{4, 2}, 1)
	writes(t, f, []int{3, -1, 6, 1, math.MinInt, math.MaxInt, -5}, 1, 3, 1)
	writes(t, f, nil, 0)
	for _, v := range []int{2, -1, 64, 1 << 32, 1<<32 + 1, math.MinInt, math.MaxInt} {
		writes(t, f, []int{0, 1, 2, 3, 4, 5}, v)
	}
	none := facts(t, nil)
	writes(t, none, nil, 0)
	writes(t, none, []int{0, 1, -1}, 0)
}

// P16.1, Writes: all histories of up to 3 operations, with all lists of up to 3
// numbers, those that are no item's among them.
func TestWritesSmall(t *testing.T) {
	histories(3, func(h history) {
		f := facts(t, h)
		lists(3, -1, len(f.Items)+1, func(l []int) {
			for v := -1; v <= len(f.Vars); v++ {
				writes(t, f, l, v, written(f, l, v)...)
			}
		})
	})
}

// P16.1, Writes: numbers that are no item's, at each place.
func TestWritesOfNoItems(t *testing.T) {
	f := facts(t, history{{wr("x", math.MinInt), wr("x", math.MaxInt), rd("x", math.MinInt)}, {wr("y", -1), wr("x", -1)}})
	for _, o := range outside(len(f.Items)) {
		writes(t, f, []int{o}, 0)
		for k := range 6 {
			writes(t, f, slices.Insert([]int{4, 3, 2, 1, 0}, k, o), 0, 4, 1, 0)
		}
	}
}

// P16.1, Kept: answers that are written out.
func TestKeptWrittenOut(t *testing.T) {
	f := facts(t, history{{rd("x", 0), wr("x", 1), rd("y", 5)}, nil, {wr("y", 1)}, {rd("x", 1), rd("x", 1), wr("x", 2), rd("x", 2)}})
	kept(t, f, 0, 0)
	kept(t, f, 1, 0)
	kept(t, f, 2, 0, 2)
	kept(t, f, 3)
	kept(t, f, 4, 4)
	kept(t, f, 5, 4, 5)
	kept(t, f, 6, 4, 5)
	kept(t, f, 7, 4, 5, 7)
	kept(t, f, 8)
	kept(t, f, -1)
	kept(t, facts(t, nil), 0)
	kept(t, facts(t, history{nil, nil}), 0)
}

// P16.1, Kept: all histories of up to 4 operations.
func TestKeptSmall(t *testing.T) {
	count := 0
	histories(4, func(h history) {
		keeps(t, facts(t, h))
		count++
	})
	if count < 10000 {
		t.Errorf("%d histories only", count)
	}
}

// P16.1, Kept: sessions that begin and end around the ends of words.
func TestKeptLarge(t *testing.T) {
	for _, n := range []int{1, 31, 32, 63, 64, 65, 129} {
		long := []api.Op{}
		for i := range n {
			long = append(long, rd("x", i-n/2), wr("y", i+1))
		}
		keeps(t, facts(t, history{long}))
		keeps(t, facts(t, history{nil, {rd("x", 0)}, long[:n], nil, long[n:], {wr("x", 1), rd("y", n)}, nil}))
	}
}

// closed holds the promise for all numbers of m: the past of what is in the
// past is in it.
func closed(t *testing.T, m api.Mat) {
	t.Helper()
	for o := range m.N {
		l, with := past.Of(m, o), past.With(m, o)
		for _, i := range l {
			for _, k := range past.With(m, i) {
				if !slices.Contains(l, k) {
					t.Fatalf("%v: %d is in the past of %d, %d in that of it, but not in that of %d", mat.Pairs(m), i, o, k, o)
				}
			}
		}
		if slices.Contains(l, o) || !slices.Contains(with, o) || len(with) != len(l)+1 {
			t.Fatalf("%v: the past of %d is %v, with it %v", mat.Pairs(m), o, l, with)
		}
	}
}

// P16.2: all small matrices that are closed and don't go round, and greater
// ones; and causal order.
func TestPastOfThePast(t *testing.T) {
	count := 0
	hold := func(m api.Mat) {
		if _, round := hull.Loop(m); !round {
			closed(t, m)
			count++
		}
	}
	small(1, func(x table) {
		if m := x.made(); hull.Closed(m) {
			hold(m)
		}
	})
	for _, n := range []int{5, 63, 64, 65} {
		for _, x := range samples(n) {
			hold(hull.Close(x.made()))
		}
	}
	histories(4, func(h history) { hold(cause.Co(facts(t, h))) })
	if count < 5000 {
		t.Errorf("%d matrices only", count)
	}
}

// Nothing that is handed in is changed, its spare room neither; what stands in
// the room isn't part of it, and nothing is kept from call to call.
func TestNothingIsChangedOrKept(t *testing.T) {
	room := facts(t, history{{rd("x", 0), wr("x", 1)}, {wr("x", 2), rd("x", 1), rd("y", 0)}})
	before := api.Facts{Vars: slices.Clone(room.Vars), Items: slices.Clone(room.Items), From: slices.Clone(room.From)}
	part := api.Facts{Vars: room.Vars[:1], Items: room.Items[:3], From: room.From[:3]}
	all := []int{4, 3, 2, 1, 0}
	for range 3 {
		writes(t, part, all, 0, 2, 1)
		keeps(t, part)
		kept(t, part, 4)
		writes(t, room, all, 0, 2, 1)
		keeps(t, room)
		kept(t, room, 4, 3, 4)
	}
	if !reflect.DeepEqual(room, before) {
		t.Errorf("what was handed in was changed: %s", brief(room))
	}
}

// Answers are their own: what is done to one isn't seen in the next one, nor in
// what was handed in.
func TestAnswersAreTheirOwn(t *testing.T) {
	m := of(3, [2]int{0, 2}, [2]int{1, 2}).made()
	f := facts(t, history{{wr("x", 1), wr("x", 2), rd("x", 1), rd("x", 0)}})
	in := []int{0, 1}
	for call, ask := range map[string]func() []int{
		"Of":     func() []int { return past.Of(m, 2) },
		"With":   func() []int { return past.With(m, 2) },
		"Writes": func() []int { return past.Writes(f, in, 0) },
		"Kept":   func() []int { return past.Kept(f, 3) },
	} {
		first := ask()
		before := slices.Clone(first)
		second := ask()
		for k := range second {
			second[k] = 99
		}
		same(t, call, first, before...)
		same(t, call, ask(), before...)
	}
	if !slices.Equal(in, []int{0, 1}) {
		t.Errorf("the list that was handed in has become %v", in)
	}
}

// P16.1: the greatest matrices. Layers above ask for the past of each number:
// that mustn't take long.
func TestGreatest(t *testing.T) {
	const n = api.MaxOps
	m, _ := mat.New(n)
	var all []int
	// Each number is ahead of all greater ones.
	for i := n - 1; i >= 0; i-- {
		if i < n-1 {
			m.Rows[i] = row.Set(m.Rows[i+1], i+1)
		}
	}
	for o := range n {
		all = append(all, o)
		same(t, "Of", past.Of(m, o), all[:o]...)
		same(t, "With", past.With(m, o), all...)
	}
	for _, o := range outside(n) {
		same(t, "Of outside", past.Of(m, o))
		same(t, "With outside", past.With(m, o))
	}
}

// P16.1: the most items, in one session and in many.
func TestMost(t *testing.T) {
	const n = api.MaxOps
	var long []api.Op
	var wide history
	var reads, written []int
	for i := range n {
		o := rd("x", 0)
		if i%3 == 0 {
			o = wr("x", i+1)
			written = append(written, i)
		} else {
			reads = append(reads, i)
		}
		long = append(long, o)
		wide = append(wide, []api.Op{o})
	}
	one, many := facts(t, history{long}), facts(t, wide)
	for _, o := range []int{0, 1, 63, 64, 65, n/2 - 1, n - 2, n - 1} {
		kept(t, one, o, reads[:o-o/3]...)
		if o%3 == 0 {
			kept(t, many, o)
		} else {
			kept(t, many, o, o)
		}
	}
	l := session.Past(one, n-1)
	writes(t, one, l, 0, written...)
	writes(t, many, l, 0, written...)
	writes(t, many, l, 1)
	slices.Reverse(l)
	slices.Reverse(written)
	writes(t, many, l, 0, written...)
}
