package clash_test

import (
	"fmt"
	"math"
	"reflect"
	"slices"
	"testing"

	"eyewitness/api"
	"eyewitness/cause"
	"eyewitness/clash"
	"eyewitness/differ"
	"eyewitness/hull"
	"eyewitness/intern"
	"eyewitness/mat"
	"eyewitness/origin"
	"eyewitness/session"
)

type history = [][]api.Op

// wr is a write, and rd a read.
func wr(name string, val int) api.Op { return api.Op{Write: true, Var: name, Val: val} }
func rd(name string, val int) api.Op { return api.Op{Var: name, Val: val} }

// edge is a conflict.
func edge(w1, w2, r int) api.Edge { return api.Edge{W1: w1, W2: w2, R: r} }

// alone are the operations, each in a session of its own.
func alone(ops ...api.Op) history {
	var h history
	for _, o := range ops {
		h = append(h, []api.Op{o})
	}
	return h
}

// facts are h, interned and whole; h must be differentiated.
func facts(t *testing.T, h history) api.Facts {
	t.Helper()
	f, err := intern.Of(h)
	if err != api.OK {
		t.Fatalf("Of of %d sessions = %d", len(h), err)
	}
	if i, j, err := differ.Check(f); err != api.OK {
		t.Fatalf("%s isn't differentiated: %d, %d, %d", brief(f), i, j, err)
	}
	return origin.Fill(f)
}

// brief is what f begins with.
func brief(f api.Facts) string {
	return fmt.Sprintf("{%d variables %.20q, %d items %v}", len(f.Vars), f.Vars[:min(4, len(f.Vars))], len(f.Items), f.Items[:min(8, len(f.Items))])
}

// A table says of each pair whether it is there: matrices are made of tables,
// and what must come of them is worked out on tables, without the layers.
type table [][]bool

func drawn(n int, has func(i, j int) bool) table {
	t := make(table, n)
	for i := range t {
		t[i] = make([]bool, n)
		for j := range t[i] {
			t[i][j] = has(i, j)
		}
	}
	return t
}

// of is the table of n rows that has these pairs.
func of(n int, pairs ...[2]int) table {
	return drawn(n, func(i, j int) bool { return slices.Contains(pairs, [2]int{i, j}) })
}

// read is the table of m's pairs.
func read(m api.Mat) table {
	return drawn(m.N, func(i, j int) bool { return m.Rows[i][j/64]>>(j%64)&1 == 1 })
}

// made is the matrix of the table, by sums alone. Its rows, and the words of
// each, have spare room behind them that holds pairs.
func (t table) made() api.Mat {
	n := len(t)
	spare := slices.Repeat([]uint64{math.MaxUint64}, n/64+2)
	rows := slices.Repeat([][]uint64{spare}, n+2)
	for i := range t {
		words := slices.Repeat([]uint64{math.MaxUint64}, (n+63)/64+2)
		clear(words[:(n+63)/64])
		for j := n - 1; j >= 0; j-- {
			words[j/64] *= 2
			if t[i][j] {
				words[j/64]++
			}
		}
		rows[i] = words[:(n+63)/64]
	}
	return api.Mat{N: n, Rows: rows[:n]}
}

// hull is what follows from the table's pairs, by ways of them, and whether a
// way comes back to where it began.
func (t table) hull() (table, bool) {
	round := false
	reached := drawn(len(t), func(int, int) bool { return false })
	for i := range t {
		for todo := []int{i}; len(todo) > 0; todo = todo[1:] {
			for j, leads := range t[todo[0]] {
				if leads && !reached[i][j] {
					reached[i][j] = true
					todo = append(todo, j)
				}
			}
		}
		round = round || reached[i][i]
	}
	return reached, round
}

// conflicts are those of f by the table, by the words alone: each write is
// held against each other one, and against each read.
func (t table) conflicts(f api.Facts) []api.Edge {
	var l []api.Edge
	for w1, a := range f.Items {
		for w2, b := range f.Items {
			if !a.Write || !b.Write || a.Var != b.Var || w1 == w2 {
				continue
			}
			for r, c := range f.Items {
				if !c.Write && c.Var == b.Var && c.Val == b.Val && t[w1][r] {
					l = append(l, edge(w1, w2, r))
				}
			}
		}
	}
	return l
}

// whole is all that stands in m and in the spare room behind, in new memory.
func whole(m api.Mat) [][]uint64 {
	var l [][]uint64
	for _, r := range m.Rows[:cap(m.Rows)] {
		l = append(l, slices.Clone(r[:cap(r)]))
	}
	return l
}

// edges holds one call of Edges against conflicts.
func edges(t *testing.T, f api.Facts, m api.Mat, want ...api.Edge) {
	t.Helper()
	if got := clash.Edges(f, m); !slices.Equal(got, want) {
		t.Fatalf("Edges(%s, %d rows) = %d %v, want %d %v", brief(f), m.N, len(got), got[:min(12, len(got))], len(want), want[:min(12, len(want))])
	}
}

// fine holds one call of Cf against a table, that doesn't go round.
func fine(t *testing.T, f api.Facts, m api.Mat, want table) {
	t.Helper()
	got, err := clash.Cf(f, m)
	if err != api.OK || got.N != m.N || !mat.Right(got) {
		t.Fatalf("Cf(%s, %d rows) = %d and %d rows, error %d", brief(f), m.N, got.N, len(got.Rows), err)
	}
	if has := read(got); !slices.EqualFunc(has, want, slices.Equal) {
		t.Fatalf("Cf(%s, %d rows) = %v, want %v", brief(f), m.N, has[:min(9, m.N)], want[:min(9, m.N)])
	}
}

// bad holds one call of Cf that goes round.
func bad(t *testing.T, f api.Facts, m api.Mat) {
	t.Helper()
	if got, err := clash.Cf(f, m); err != api.ErrCycle || got.N != 0 || len(got.Rows) != 0 {
		t.Fatalf("Cf(%s, %d rows) = %d and %d rows, error %d, want the zero matrix and %d", brief(f), m.N, got.N, len(got.Rows), err, api.ErrCycle)
	}
}

// held holds all that is asked of f and a table against the words, and tells
// whether it goes round.
func held(t *testing.T, f api.Facts, x table) bool {
	t.Helper()
	m := x.made()
	before := whole(m)
	l := x.conflicts(f)
	edges(t, f, m, l...)
	all := drawn(len(x), func(i, j int) bool { return x[i][j] })
	for _, e := range l {
		all[e.W1][e.W2] = true
	}
	want, round := all.hull()
	if round {
		bad(t, f, m)
	} else {
		fine(t, f, m, want)
	}
	if !reflect.DeepEqual(whole(m), before) {
		t.Fatalf("a matrix of %d rows was changed", m.N)
	}
	return round
}

// chance is a number below one, by a fixed rule without a pattern.
func chance(seed uint64) func(one int) int {
	x := 0x9e3779b97f4a7c15 + seed
	return func(one int) int {
		x ^= x << 13
		x ^= x >> 7
		x ^= x << 17
		return int(x % uint64(one))
	}
}

// mixed are n operations on 3 variables, without a pattern: writes, reads of
// what was written ahead of them, of the beginning, and out of thin air.
func mixed(n int, draw func(one int) int) []api.Op {
	var ops []api.Op
	for i := range n {
		o := rd([]string{"x", "y", "z"}[draw(3)], -draw(2))
		if draw(5) < 2 {
			o = wr(o.Var, i+1)
		} else if w := draw(i + 1); w < i && ops[w].Val > 0 {
			o = rd(ops[w].Var, ops[w].Val)
		}
		ops = append(ops, o)
	}
	return ops
}

// samples are tables of n rows of all kinds: without pairs and with all, ways
// up and down, columns and rows alone, and without a pattern.
func samples(n int) []table {
	draw := chance(uint64(n))
	var l []table
	for _, has := range []func(i, j int) bool{
		func(i, j int) bool { return false },
		func(i, j int) bool { return true },
		func(i, j int) bool { return i != j },
		func(i, j int) bool { return i < j },
		func(i, j int) bool { return i > j },
		func(i, j int) bool { return j == i+1 },
		func(i, j int) bool { return i == 0 },
		func(i, j int) bool { return i == n-1 },
		func(i, j int) bool { return j == 0 && i > 0 },
		func(i, j int) bool { return j == n-1 && i < j },
		func(i, j int) bool { return draw(2) == 0 },
		func(i, j int) bool { return i < j && draw(7) == 0 },
		func(i, j int) bool { return i > j && draw(n) == 0 },
		func(i, j int) bool { return i < j && draw(n*n) < 9 },
	} {
		l = append(l, drawn(n, has))
	}
	return l
}

// lists calls each for all differentiated lists of up to n operations out of
// these.
func lists(n int, from []api.Op, each func([]api.Op)) {
	var more func(ops []api.Op)
	more = func(ops []api.Op) {
		each(ops)
		for _, o := range from {
			if len(ops) < n && !(o.Write && slices.Contains(ops, o)) {
				more(append(slices.Clone(ops), o))
			}
		}
	}
	more(nil)
}

// few are operations on 2 variables: writes, reads of what is written, of the
// beginning, and out of thin air.
func few() []api.Op {
	return []api.Op{wr("x", 1), wr("x", 2), wr("y", 1), rd("x", 1), rd("x", 2), rd("y", 1), rd("x", 0), rd("y", 2)}
}

// cuts calls each for all histories of these operations, in this order, in
// sessions that aren't empty.
func cuts(ops []api.Op, each func(history)) {
	for mask := range 1 << max(len(ops)-1, 0) {
		var h history
		for i, o := range ops {
			if i == 0 || mask>>(i-1)&1 == 1 {
				h = append(h, nil)
			}
			h[len(h)-1] = append(h[len(h)-1], o)
		}
		each(h)
	}
}

// small calls each for all tables of n rows, or for every so many of them.
func small(n, step int, each func(table)) {
	for code := 0; code < 1<<(n*n); code += step {
		each(drawn(n, func(i, j int) bool { return code>>(i*n+j)&1 == 1 }))
	}
}

func TestExamples(t *testing.T) {
	f := facts(t, history{{wr("x", 1)}, {wr("x", 2), rd("x", 1)}})
	edges(t, f, cause.Co(f), edge(1, 0, 2))
	fine(t, f, cause.Co(f), of(3, [2]int{0, 2}, [2]int{1, 2}, [2]int{1, 0}))
	// The document's examples 6, 1 and 3.
	f = facts(t, history{{wr("x", 1), rd("x", 2)}, {wr("x", 2), rd("x", 1)}})
	edges(t, f, cause.Co(f), edge(0, 2, 1), edge(2, 0, 3))
	bad(t, f, cause.Co(f))
	f = facts(t, history{{wr("x", 1)}, {rd("x", 1)}})
	edges(t, f, cause.Co(f))
	fine(t, f, cause.Co(f), of(2, [2]int{0, 1}))
	f = facts(t, history{{rd("x", 1), wr("y", 1)}, {rd("y", 1), wr("x", 1)}})
	edges(t, f, cause.Co(f))
	bad(t, f, cause.Co(f))
}

// P17.1, Edges: what is a conflict, and what isn't.
func TestEdgesWrittenOut(t *testing.T) {
	f := facts(t, alone(wr("x", 1), wr("x", 2), wr("y", 2), rd("x", 2), rd("y", 2), rd("x", 0), rd("x", 3), rd("z", 0)))
	every := drawn(8, func(i, j int) bool { return true })
	edges(t, f, every.made(), edge(0, 1, 3))
	one := of(8, [2]int{0, 3})
	edges(t, f, one.made(), edge(0, 1, 3))
	// No other pair makes one: not the read's own write, a write to another
	// variable, a read from the beginning or out of thin air, a read ahead of a
	// read or of a write, nor a write ahead of a write.
	every[0][3] = false
	edges(t, f, every.made())
	// By the matrix's own pairs, not by what follows from them.
	edges(t, f, of(8, [2]int{0, 7}, [2]int{7, 3}).made())
	edges(t, f, hull.Close(of(8, [2]int{0, 7}, [2]int{7, 3}).made()), edge(0, 1, 3))
	// Sessions don't count, but by the matrix.
	f = facts(t, history{{wr("x", 1), wr("x", 2), rd("x", 2)}})
	edges(t, f, of(3).made())
	edges(t, f, of(3, [2]int{0, 2}).made(), edge(0, 1, 2))
	edges(t, f, session.Po(f), edge(0, 1, 2))
	f = facts(t, nil)
	edges(t, f, api.Mat{})
	edges(t, facts(t, history{nil, {}}), api.Mat{Rows: [][]uint64{}})
}

// P17.1, Edges: in order by W1, then W2, then R, however these are numbered.
func TestEdgesInOrder(t *testing.T) {
	f := facts(t, alone(rd("x", 3), rd("x", 1), wr("x", 2), rd("x", 1), wr("x", 3), rd("x", 2), wr("x", 1), rd("x", 3)))
	every := drawn(8, func(i, j int) bool { return true })
	edges(t, f, every.made(),
		edge(2, 4, 0), edge(2, 4, 7), edge(2, 6, 1), edge(2, 6, 3),
		edge(4, 2, 5), edge(4, 6, 1), edge(4, 6, 3),
		edge(6, 2, 5), edge(6, 4, 0), edge(6, 4, 7))
	// Of two variables, one within the other.
	f = facts(t, alone(wr("x", 1), wr("y", 1), rd("y", 1), wr("y", 2), wr("x", 2), rd("x", 1), rd("y", 2), rd("x", 2), rd("y", 1)))
	every = drawn(9, func(i, j int) bool { return true })
	edges(t, f, every.made(), edge(0, 4, 7), edge(1, 3, 6), edge(3, 1, 2), edge(3, 1, 8), edge(4, 0, 5))
}

// P17.1, Cf: answers that are written out.
func TestCfWrittenOut(t *testing.T) {
	fine(t, facts(t, nil), api.Mat{}, of(0))
	// Without conflicts it is the hull of the matrix, and goes round if that
	// does.
	f := facts(t, alone(wr("x", 1), wr("x", 2), rd("x", 1), rd("y", 0)))
	fine(t, f, of(4).made(), of(4))
	fine(t, f, of(4, [2]int{3, 2}, [2]int{2, 1}).made(), of(4, [2]int{3, 2}, [2]int{2, 1}, [2]int{3, 1}))
	bad(t, f, of(4, [2]int{3, 3}).made())
	bad(t, f, of(4, [2]int{0, 2}, [2]int{2, 0}).made())
	bad(t, f, of(4, [2]int{3, 0}, [2]int{0, 1}, [2]int{1, 3}).made())
	// What follows from conflicts is in it, too.
	fine(t, f, of(4, [2]int{1, 2}, [2]int{3, 1}, [2]int{0, 2}).made(), of(4, [2]int{1, 2}, [2]int{3, 1}, [2]int{0, 2}, [2]int{1, 0}, [2]int{3, 0}, [2]int{3, 2}))
	// A conflict against the matrix goes round.
	bad(t, f, of(4, [2]int{0, 1}, [2]int{1, 2}).made())
	// Conflicts that the matrix hasn't itself, but its hull, aren't in it.
	fine(t, f, of(4, [2]int{1, 3}, [2]int{3, 2}).made(), of(4, [2]int{1, 3}, [2]int{3, 2}, [2]int{1, 2}))
	// Two conflicts that are against each other, two of one W1 and W2, and three
	// that go round only together.
	f = facts(t, alone(wr("x", 1), wr("x", 2), rd("x", 1), rd("x", 2), rd("x", 1)))
	bad(t, f, of(5, [2]int{1, 2}, [2]int{0, 3}).made())
	fine(t, f, of(5, [2]int{1, 2}, [2]int{1, 4}).made(), of(5, [2]int{1, 2}, [2]int{1, 4}, [2]int{1, 0}))
	f = facts(t, alone(wr("x", 1), wr("x", 2), wr("x", 3), rd("x", 1), rd("x", 2), rd("x", 3)))
	bad(t, f, of(6, [2]int{0, 4}, [2]int{1, 5}, [2]int{2, 3}).made())
	fine(t, f, of(6, [2]int{0, 4}, [2]int{1, 5}).made(), of(6, [2]int{0, 4}, [2]int{1, 5}, [2]int{0, 1}, [2]int{1, 2}, [2]int{0, 2}, [2]int{0, 5}))
}

// P17.1: all differentiated histories of up to 4 operations, by the matrices
// that the program makes of them.
func TestHistories(t *testing.T) {
	count, rounds, clashes := 0, 0, 0
	lists(4, few(), func(ops []api.Op) {
		cuts(ops, func(h history) {
			f := facts(t, h)
			for _, m := range []api.Mat{cause.Co(f), cause.Edges(f), session.Po(f)} {
				if held(t, f, read(m)) {
					rounds++
				}
			}
			clashes += len(clash.Edges(f, cause.Co(f)))
			count++
		})
	})
	if count < 20000 || rounds < 1000 || clashes < 500 {
		t.Errorf("%d histories, %d matrices that go round, %d conflicts only", count, rounds, clashes)
	}
}

// P17.1: all matrices of up to 3 rows, and many of 4, with lists of operations
// that have conflicts, and with some that have none.
func TestMatrices(t *testing.T) {
	for _, ops := range [][]api.Op{{}, {wr("x", 1)}, {rd("x", 0)}, {wr("x", 1), rd("x", 1)}, {wr("x", 1), wr("x", 2)}} {
		small(len(ops), 1, func(x table) { held(t, facts(t, alone(ops...)), x) })
	}
	few := []api.Op{wr("x", 1), wr("x", 2), wr("y", 2), rd("x", 1), rd("x", 2), rd("x", 0)}
	count := 0
	lists(4, few, func(ops []api.Op) {
		if len(ops) < 3 || !slices.Contains(ops, few[0]) || !slices.Contains(ops, few[1]) {
			return
		}
		f := facts(t, alone(ops...))
		small(len(ops), map[int]int{3: 1, 4: 97}[len(ops)], func(x table) {
			held(t, f, x)
			count++
		})
	})
	if count < 50000 {
		t.Errorf("%d matrices only", count)
	}
}

// P17.1: numbers around the ends of words, and values at the ends of int.
func TestLarge(t *testing.T) {
	rounds, count := 0, 0
	for _, n := range []int{5, 31, 32, 33, 63, 64, 65, 127, 128, 129} {
		ops := mixed(n, chance(uint64(n)))
		for range 2 {
			f := facts(t, history{ops[:n/3], nil, ops[n/3 : n/2], ops[n/2:]})
			for _, x := range append(samples(n), read(cause.Co(f))) {
				if held(t, f, x) {
					rounds++
				}
				count++
			}
			// Now reads read from what is numbered behind them.
			slices.Reverse(ops)
		}
	}
	if rounds < 50 || rounds > count-50 {
		t.Errorf("of %d matrices %d go round", count, rounds)
	}
	f := facts(t, history{nil, {wr("x", math.MinInt), rd("x", math.MaxInt)}, nil, {wr("x", math.MaxInt), rd("x", math.MinInt), wr("x", -1), rd("x", -1)}})
	for _, x := range append(samples(6), read(cause.Co(f))) {
		held(t, f, x)
	}
}

// P17.2: there are no more unlike pairs than the square of the writes, and each
// pair that a matrix gets leaves all conflicts that there were, and makes one
// more at most.
func TestMorePairs(t *testing.T) {
	draw := chance(0)
	lists(4, few(), func(ops []api.Op) {
		f := facts(t, alone(ops...))
		writes := 0
		for _, o := range ops {
			if o.Write {
				writes++
			}
		}
		n := len(ops)
		m, _ := mat.New(n)
		last := clash.Edges(f, m)
		for range 2 * n {
			m, _ = mat.Set(m, draw(n), draw(n))
			l := clash.Edges(f, m)
			unlike := map[[2]int]bool{}
			for _, e := range l {
				unlike[[2]int{e.W1, e.W2}] = true
			}
			if len(unlike) > writes*writes || len(l) > len(last)+1 {
				t.Fatalf("%s, %v: %d writes, conflicts %v, and with a pair less %v", brief(f), mat.Pairs(m), writes, l, last)
			}
			for _, e := range last {
				if !slices.Contains(l, e) {
					t.Fatalf("%s, %v: conflicts %v, but with a pair less %v", brief(f), mat.Pairs(m), l, last)
				}
			}
			last = l
		}
	})
}

// Nothing that is handed in is changed, its spare room neither; what stands in
// the room isn't part of it, and nothing is kept from call to call.
func TestNothingIsChangedOrKept(t *testing.T) {
	room := facts(t, history{{wr("x", 1), wr("x", 2)}, {rd("x", 1), wr("x", 3)}, {rd("x", 1), rd("x", 3)}})
	before := api.Facts{Vars: slices.Clone(room.Vars), Items: slices.Clone(room.Items), From: slices.Clone(room.From)}
	part := api.Facts{Vars: room.Vars[:1], Items: room.Items[:3], From: room.From[:3]}
	for range 3 {
		for _, x := range samples(3) {
			held(t, part, x)
		}
		for _, x := range samples(6) {
			held(t, room, x)
		}
	}
	if !reflect.DeepEqual(room, before) {
		t.Errorf("what was handed in was changed: %s", brief(room))
	}
}

// Answers are their own: what is done to one isn't seen in the next one, nor in
// another row of it.
func TestAnswersAreTheirOwn(t *testing.T) {
	f := facts(t, history{{wr("x", 1)}, {wr("x", 2), rd("x", 1), rd("x", 1)}, {wr("y", 1)}, {rd("y", 1)}})
	m := cause.Co(f)
	l, cf := clash.Edges(f, m), read(must(clash.Cf(f, m)))
	before := slices.Clone(l)
	other := clash.Edges(f, m)
	for i := range other {
		other[i] = edge(9, 9, 9)
	}
	if !slices.Equal(l, before) {
		t.Errorf("conflicts have become %v", l)
	}
	edges(t, f, m, before...)
	for i := range m.N {
		got := must(clash.Cf(f, m))
		got.Rows[i][0] ^= 63
		for k := range m.N {
			if (got.Rows[k][0] == must(clash.Cf(f, m)).Rows[k][0]) == (k == i) {
				t.Errorf("the rows %d and %d of what Cf answers share words", i, k)
			}
		}
	}
	fine(t, f, m, cf)
}

// must is the matrix that was answered; none, beside an error.
func must(m api.Mat, err api.Errno) api.Mat {
	if err != api.OK {
		return api.Mat{}
	}
	return m
}

// P17.1: the most operations. Half of them write, each in a session of its
// own, and the others, in one session, read what is written, one by one: so
// each write is ahead of the reads of all later ones, and by that of these.
func TestMost(t *testing.T) {
	const half = api.MaxOps / 2
	var h history
	var reads []api.Op
	for i := range half {
		h = append(h, []api.Op{wr("x", i+1)})
		reads = append(reads, rd("x", i+1))
	}
	f := facts(t, append(h, reads))
	m := cause.Co(f)
	var want []api.Edge
	for i := range half {
		for j := i + 1; j < half; j++ {
			want = append(want, edge(i, j, half+j))
		}
	}
	edges(t, f, m, want...)
	fine(t, f, m, drawn(api.MaxOps, func(i, j int) bool { return i < j && i <= j-half || i < j && (j < half || i >= half) }))

	// With all pairs each write is in conflict with each other one.
	want = want[:0]
	for i := range half {
		for j := range half {
			if i != j {
				want = append(want, edge(i, j, half+j))
			}
		}
	}
	every, _ := mat.New(api.MaxOps)
	for i := range every.Rows {
		for k := range every.Rows[i] {
			every.Rows[i][k] = math.MaxUint64
		}
	}
	edges(t, f, every, want...)
	bad(t, f, every)

	// What was read first is read again at the end, so it is overwritten by all
	// others, and these by it.
	h[half-1], reads[half-1] = nil, rd("x", 1)
	f = facts(t, append(h, reads))
	bad(t, f, cause.Co(f))
}

// P17.1: half as many variables as the most operations, and no conflicts.
func TestManyVariables(t *testing.T) {
	var h history
	for i := range api.MaxOps / 2 {
		name := fmt.Sprintf("v%c%c%c", 'a'+i%26, 'a'+i/26%26, 'a'+i/676)
		h = append(h, []api.Op{wr(name, 1), rd(name, 1)})
	}
	f := facts(t, h)
	m := session.Po(f)
	edges(t, f, m)
	fine(t, f, m, drawn(api.MaxOps, func(i, j int) bool { return j == i+1 && i%2 == 0 }))
}
