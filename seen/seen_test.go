package seen_test

import (
	"fmt"
	"math"
	"reflect"
	"slices"
	"testing"

	"eyewitness/api"
	"eyewitness/cause"
	"eyewitness/clash"
	"eyewitness/differ"
	"eyewitness/hull"
	"eyewitness/intern"
	"eyewitness/mat"
	"eyewitness/origin"
	"eyewitness/past"
	"eyewitness/seen"
)

type history = [][]api.Op

// wr is a write, and rd a read.
func wr(name string, val int) api.Op { return api.Op{Write: true, Var: name, Val: val} }
func rd(name string, val int) api.Op { return api.Op{Var: name, Val: val} }

// edge is an edge that a round found.
func edge(w1, w2, r int) api.Edge { return api.Edge{W1: w1, W2: w2, R: r} }

// named is the name of a variable by its number.
func named(i int) string {
	return fmt.Sprintf("v%c%c%c", 'a'+i%26, 'a'+i/26%26, 'a'+i/676)
}

// facts are h, interned and whole; h must be differentiated.
func facts(t *testing.T, h history) api.Facts {
	t.Helper()
	f, err := intern.Of(h)
	if err != api.OK {
		t.Fatalf("Of of %d sessions = %d", len(h), err)
	}
	if i, j, err := differ.Check(f); err != api.OK {
		t.Fatalf("%s isn't differentiated: %d, %d, %d", brief(f), i, j, err)
	}
	return origin.Fill(f)
}

// brief is what f begins with.
func brief(f api.Facts) string {
	return fmt.Sprintf("{%d variables %.20q, %d items %v}", len(f.Vars), f.Vars[:min(4, len(f.Vars))], len(f.Items), f.Items[:min(8, len(f.Items))])
}

// A table says of each pair whether it is there: what must come of matrices is
// worked out on tables, without the layers.
type table [][]bool

func drawn(n int, has func(i, j int) bool) table {
	t := make(table, n)
	for i := range t {
		t[i] = make([]bool, n)
		for j := range t[i] {
			t[i][j] = has(i, j)
		}
	}
	return t
}

// of is the table of n rows that has these pairs.
func of(n int, pairs ...[2]int) table {
	return drawn(n, func(i, j int) bool { return slices.Contains(pairs, [2]int{i, j}) })
}

// read is the table of m's pairs.
func read(m api.Mat) table {
	return drawn(m.N, func(i, j int) bool { return m.Rows[i][j/64]>>(j%64)&1 == 1 })
}

// made is the matrix of the table, by sums alone. Its rows, and the words of
// each, have spare room behind them that holds pairs.
func (t table) made() api.Mat {
	n := len(t)
	spare := slices.Repeat([]uint64{math.MaxUint64}, n/64+2)
	rows := slices.Repeat([][]uint64{spare}, n+2)
	for i := range t {
		words := slices.Repeat([]uint64{math.MaxUint64}, (n+63)/64+2)
		clear(words[:(n+63)/64])
		for j := n - 1; j >= 0; j-- {
			words[j/64] *= 2
			if t[i][j] {
				words[j/64]++
			}
		}
		rows[i] = words[:(n+63)/64]
	}
	return api.Mat{N: n, Rows: rows[:n]}
}

// hull is what follows from the table's pairs, by ways of them.
func (t table) hull() table {
	reached := drawn(len(t), func(int, int) bool { return false })
	for i := range t {
		for todo := []int{i}; len(todo) > 0; todo = todo[1:] {
			for j, leads := range t[todo[0]] {
				if leads && !reached[i][j] {
					reached[i][j] = true
					todo = append(todo, j)
				}
			}
		}
	}
	return reached
}

// within tells whether u has all pairs of the table.
func (t table) within(u table) bool {
	for i := range t {
		for j := range t {
			if t[i][j] && !u[i][j] {
				return false
			}
		}
	}
	return true
}

// first is the pairs of the table, causal order, both of whose numbers are in
// the past of o with o.
func (t table) first(o int) table {
	in := func(i int) bool { return i == o || t[i][o] }
	return drawn(len(t), func(i, j int) bool { return t[i][j] && in(i) && in(j) })
}

// wanted is the least read because of which the table must have the pair
// w1, w2 for o, by the words alone; -1, if there is none, or it has the pair.
func (t table) wanted(f api.Facts, o, w1, w2 int) int {
	a, b, last := f.Items[w1], f.Items[w2], f.Items[o]
	if !a.Write || !b.Write || a.Var != b.Var || w1 == w2 || t[w1][w2] {
		return -1
	}
	for r, c := range f.Items {
		kept := !c.Write && c.Session == last.Session && c.Place <= last.Place
		if kept && c.Var == b.Var && c.Val == b.Val && t[w1][r] {
			return r
		}
	}
	return -1
}

// wants is all edges that the table must have for o and hasn't, by W1, then
// W2.
func (t table) wants(f api.Facts, o int) []api.Edge {
	var l []api.Edge
	for w1 := range t {
		for w2 := range t {
			if r := t.wanted(f, o, w1, w2); r >= 0 {
				l = append(l, edge(w1, w2, r))
			}
		}
	}
	return l
}

// with is the table with the edges' pairs.
func (t table) with(l ...api.Edge) table {
	u := drawn(len(t), func(i, j int) bool { return t[i][j] })
	for _, e := range l {
		u[e.W1][e.W2] = true
	}
	return u
}

// rounds is what o has seen, by the words alone, of the table as causal order:
// with the edges, and the number of rounds.
func (t table) rounds(f api.Facts, o int) (table, []api.Edge, int) {
	hb := t.first(o)
	var all []api.Edge
	for n := 1; ; n++ {
		l := hb.wants(f, o)
		if len(l) == 0 {
			return hb, all, n
		}
		all = append(all, l...)
		hb = hb.with(l...).hull()
	}
}

// enough tells whether the table has all that what o has seen must have.
func (t table) enough(f api.Facts, co table, o int) bool {
	return co.first(o).within(t) && t.hull().within(t) && len(t.wants(f, o)) == 0
}

// whole is all that stands in m and in the spare room behind, in new memory.
func whole(m api.Mat) [][]uint64 {
	var l [][]uint64
	for _, r := range m.Rows[:cap(m.Rows)] {
		l = append(l, slices.Clone(r[:cap(r)]))
	}
	return l
}

// fine holds one call of Of against an answer.
func fine(t *testing.T, f api.Facts, co api.Mat, o int, want table, rounds int, edges ...api.Edge) {
	t.Helper()
	m, l, n, err := seen.Of(f, co, o)
	if err != api.OK || m.N != co.N || !mat.Right(m) {
		t.Fatalf("Of(%s, %d) = %d and %d rows, error %d", brief(f), o, m.N, len(m.Rows), err)
	}
	if n != rounds || !slices.Equal(l, edges) {
		t.Fatalf("Of(%s, %d) = %d rounds with %d edges %v, want %d with %d, %v", brief(f), o, n, len(l), l[:min(12, len(l))], rounds, len(edges), edges[:min(12, len(edges))])
	}
	if has := read(m); !slices.EqualFunc(has, want, slices.Equal) {
		t.Fatalf("Of(%s, %d) = %v, want %v", brief(f), o, has[:min(9, m.N)], want[:min(9, m.N)])
	}
}

// none holds calls of Of for numbers that are no item's.
func none(t *testing.T, f api.Facts, co api.Mat) {
	t.Helper()
	n := len(f.Items)
	for _, o := range []int{-1, -2, -3, -64, n, n + 1, n + 64, 1 << 32, 1<<32 + n/2, math.MinInt, math.MinInt + n/2, math.MaxInt} {
		if m, l, r, err := seen.Of(f, co, o); err != api.ErrArg || m.N != 0 || len(m.Rows) != 0 || len(l) != 0 || r != 0 {
			t.Fatalf("Of(%s, %d) = %d and %d rows, %d edges, %d rounds, error %d, want nothing and %d", brief(f), o, m.N, len(m.Rows), len(l), r, err, api.ErrArg)
		}
	}
}

// held holds one call of Of against the words, and tells how many rounds there
// were. Causal order has spare room.
func held(t *testing.T, f api.Facts, co table, o int) int {
	t.Helper()
	m := co.made()
	before := whole(m)
	want, edges, rounds := co.rounds(f, o)
	fine(t, f, m, o, want, rounds, edges...)
	if !reflect.DeepEqual(whole(m), before) {
		t.Fatalf("causal order of %d rows was changed", m.N)
	}
	// P18.2.
	writes := 0
	for _, i := range f.Items {
		if i.Write {
			writes++
		}
	}
	if len(edges) > writes*writes || rounds > len(edges)+1 {
		t.Fatalf("%s, %d: %d writes, %d edges, %d rounds", brief(f), o, writes, len(edges), rounds)
	}
	return rounds
}

// chance is a number below one, by a fixed rule without a pattern.
func chance(seed uint64) func(one int) int {
	x := 0x9e3779b97f4a7c15 + seed
	return func(one int) int {
		x ^= x << 13
		x ^= x >> 7
		x ^= x << 17
		return int(x % uint64(one))
	}
}

// dealt is a history of n operations on so many variables, that are dealt out
// to sessions one by one, without a pattern: writes, and reads of what was
// written, now and then of the beginning or out of thin air.
func dealt(n, vars, sessions int, draw func(one int) int) history {
	h := make(history, sessions)
	var writes []api.Op
	for i := range n {
		o := rd(named(draw(vars)), -draw(2))
		if k := draw(8); k < 4 {
			o = wr(o.Var, i+1)
			writes = append(writes, o)
		} else if k < 7 && len(writes) > 0 {
			w := writes[len(writes)-1-draw(min(len(writes), 16))]
			o = rd(w.Var, w.Val)
		}
		s := draw(sessions)
		h[s] = append(h[s], o)
	}
	return h
}

// lists calls each for all differentiated lists of up to n operations out of
// these.
func lists(n int, from []api.Op, each func([]api.Op)) {
	var more func(ops []api.Op)
	more = func(ops []api.Op) {
		each(ops)
		for _, o := range from {
			if len(ops) < n && !(o.Write && slices.Contains(ops, o)) {
				more(append(slices.Clone(ops), o))
			}
		}
	}
	more(nil)
}

// few are operations on 2 variables: writes, reads of what is written, of the
// beginning, and out of thin air.
func few() []api.Op {
	return []api.Op{wr("x", 1), wr("x", 2), wr("y", 1), rd("x", 1), rd("x", 2), rd("y", 1), rd("x", 0), rd("y", 2)}
}

// cuts calls each for all histories of these operations, in this order, in
// sessions that aren't empty.
func cuts(ops []api.Op, each func(history)) {
	for mask := range 1 << max(len(ops)-1, 0) {
		var h history
		for i, o := range ops {
			if i == 0 || mask>>(i-1)&1 == 1 {
				h = append(h, nil)
			}
			h[len(h)-1] = append(h[len(h)-1], o)
		}
		each(h)
	}
}

// small calls each for all tables of n rows.
func small(n int, each func(table)) {
	for code := range 1 << (n * n) {
		each(drawn(n, func(i, j int) bool { return code>>(i*n+j)&1 == 1 }))
	}
}

// chain is a history of which the last operation has seen what takes k rounds:
// what one round finds leads to what the next one finds, at a read that stands
// ahead of this one's. One session writes what is overwritten, one reads, and
// the others write what is read.
func chain(k int) history {
	var h history
	var over, reads []api.Op
	for i := k; i >= 1; i-- {
		over = append(over, wr(named(i), 1))
		h = append(h, []api.Op{wr(named(i), 2), wr(named(k+i), 1)})
		link := rd(named(k+i-1), 1)
		if i == 1 {
			link = rd("last", 1)
		}
		reads = append(reads, link, rd(named(i), 2))
	}
	return append(h, append(over, wr("last", 1)), reads)
}

func TestExamples(t *testing.T) {
	f := facts(t, history{{wr("x", 1)}, {wr("x", 2), rd("x", 1)}})
	co := cause.Co(f)
	fine(t, f, co, 2, of(3, [2]int{0, 2}, [2]int{1, 2}, [2]int{1, 0}), 2, edge(1, 0, 2))
	fine(t, f, co, 0, of(3), 1)
	fine(t, f, co, 1, of(3), 1)
	none(t, f, co)
	// The document's example 7: bad by CM, since 2 has seen 0 ahead of itself.
	f = facts(t, history{{wr("x", 1), wr("y", 1)}, {wr("x", 2), rd("x", 1), rd("x", 2)}})
	fine(t, f, cause.Co(f), 3, of(5, [2]int{0, 3}, [2]int{2, 3}, [2]int{2, 0}), 2, edge(2, 0, 3))
	every := of(5, [2]int{0, 0}, [2]int{0, 2}, [2]int{0, 3}, [2]int{0, 4}, [2]int{2, 0}, [2]int{2, 2}, [2]int{2, 3}, [2]int{2, 4}, [2]int{3, 4})
	fine(t, f, cause.Co(f), 4, every, 2, edge(0, 2, 4), edge(2, 0, 3))
	// Example 6 isn't bad by CM: each reader has seen what it has read last.
	f = facts(t, history{{wr("x", 1), rd("x", 2)}, {wr("x", 2), rd("x", 1)}})
	fine(t, f, cause.Co(f), 1, of(4, [2]int{0, 1}, [2]int{2, 1}, [2]int{0, 2}), 2, edge(0, 2, 1))
	fine(t, f, cause.Co(f), 3, of(4, [2]int{0, 3}, [2]int{2, 3}, [2]int{2, 0}), 2, edge(2, 0, 3))
}

// P18.1: what a pair is found for, and what it isn't.
func TestWrittenOut(t *testing.T) {
	// Reads of other sessions aren't kept, nor are those behind o.
	f := facts(t, history{{wr("x", 1)}, {wr("x", 2), rd("x", 1), wr("y", 1)}, {rd("y", 1)}})
	co := cause.Co(f)
	past := of(5, [2]int{0, 2}, [2]int{0, 3}, [2]int{1, 2}, [2]int{1, 3}, [2]int{2, 3})
	fine(t, f, co, 3, past.with(edge(1, 0, 2)), 2, edge(1, 0, 2))
	fine(t, f, co, 4, past.with(edge(0, 4, 0), edge(1, 4, 0), edge(2, 4, 0), edge(3, 4, 0)), 1)
	fine(t, f, co, 1, of(5), 1)
	// Pairs of causal order outside o's past aren't in it.
	f = facts(t, history{{wr("x", 1), wr("y", 1)}, {rd("x", 1), rd("x", 0)}, {wr("z", 1), rd("z", 1)}})
	fine(t, f, cause.Co(f), 2, of(6, [2]int{0, 2}), 1)
	fine(t, f, cause.Co(f), 5, of(6, [2]int{4, 5}), 1)
	// Reads from the beginning and out of thin air want nothing, nor does a read
	// whose own write alone is ahead of it, or one to another variable.
	f = facts(t, history{{wr("x", 1), wr("y", 1), rd("x", 0), rd("x", 7), rd("y", 0), rd("x", 1), rd("y", 1), rd("z", 0)}})
	fine(t, f, cause.Co(f), 7, drawn(8, func(i, j int) bool { return i < j }), 1)
	// What is overwritten in one session is there already.
	f = facts(t, history{{wr("x", 1), wr("x", 2), rd("x", 2), rd("x", 2)}})
	fine(t, f, cause.Co(f), 3, drawn(4, func(i, j int) bool { return i < j }), 1)
	// Where causal order goes round, what was seen does, too.
	f = facts(t, history{{rd("x", 1), wr("x", 1)}, {wr("x", 2)}})
	fine(t, f, cause.Co(f), 0, of(3, [2]int{0, 0}, [2]int{0, 1}, [2]int{1, 0}, [2]int{1, 1}), 1)
	fine(t, f, cause.Co(f), 2, of(3), 1)
	f = facts(t, history{{rd("x", 1), wr("x", 1), rd("x", 2)}, {wr("x", 2)}})
	fine(t, f, cause.Co(f), 1, of(4, [2]int{0, 0}, [2]int{0, 1}, [2]int{1, 0}, [2]int{1, 1}), 1)
	fine(t, f, cause.Co(f), 2, drawn(4, func(i, j int) bool { return i < 2 || i == 3 && j == 2 }), 2, edge(1, 3, 2))
	none(t, facts(t, nil), api.Mat{})
	none(t, facts(t, history{nil, {}}), api.Mat{Rows: [][]uint64{}})
}

// P18.1: edges of a round stand by W1, then W2, in whatever order the reads
// are, each pair once, with the least read that wants it.
func TestEdgesInOrder(t *testing.T) {
	f := facts(t, history{{wr("x", 3)}, {wr("x", 2)}, {wr("x", 1)}, {rd("x", 1), rd("x", 2), rd("x", 3), rd("x", 3)}})
	co := cause.Co(f)
	want := read(co).first(5).with(edge(1, 0, 5), edge(2, 0, 5), edge(2, 1, 4))
	fine(t, f, co, 5, want, 2, edge(1, 0, 5), edge(2, 0, 5), edge(2, 1, 4))
	want = read(co).first(4).with(edge(2, 1, 4))
	fine(t, f, co, 4, want, 2, edge(2, 1, 4))
	fine(t, f, co, 6, read(co).with(edge(1, 0, 5), edge(2, 0, 5), edge(2, 1, 4)), 2, edge(1, 0, 5), edge(2, 0, 5), edge(2, 1, 4))
	// The first read of 0 isn't behind 1: the second one wants the pair, and the
	// third one isn't told.
	f = facts(t, history{{wr("x", 1)}, {wr("x", 2), wr("y", 1)}, {rd("x", 1), rd("y", 1), rd("x", 1), rd("x", 1)}})
	co = cause.Co(f)
	fine(t, f, co, 3, read(co).first(3), 1)
	fine(t, f, co, 6, read(co).with(edge(1, 0, 5)).hull(), 2, edge(1, 0, 5))
	// Both ways round.
	f = facts(t, history{{wr("x", 1)}, {wr("x", 2)}, {rd("x", 1), rd("x", 2), rd("x", 1)}})
	co = cause.Co(f)
	fine(t, f, co, 2, read(co).first(2), 1)
	fine(t, f, co, 3, read(co).first(3).with(edge(0, 1, 3)), 2, edge(0, 1, 3))
	fine(t, f, co, 4, read(co).with(edge(0, 1, 3), edge(1, 0, 4)).hull(), 2, edge(0, 1, 3), edge(1, 0, 4))
	// Two variables, one within the other.
	f = facts(t, history{{wr("x", 1)}, {wr("y", 1)}, {wr("y", 2)}, {wr("x", 2)}, {rd("y", 2), rd("x", 2), rd("y", 1), rd("x", 1)}})
	co = cause.Co(f)
	fine(t, f, co, 7, read(co).with(edge(2, 1, 6), edge(3, 0, 7)).hull(), 2, edge(2, 1, 6), edge(3, 0, 7))
}

// P18.1: what one round finds leads to what the next one finds.
func TestRounds(t *testing.T) {
	f := facts(t, chain(2))
	// 0 x=2 1 z=1, 2 y=2 .., 4 x=1 5 y=1 6 last=1, and the reads from 7 on.
	edges := []api.Edge{edge(5, 2, 10), edge(4, 0, 8)}
	co := cause.Co(f)
	want := read(co).first(10).with(edges...).hull()
	fine(t, f, co, 10, want, 3, edges...)
	fine(t, f, co, 9, read(co).first(9), 1)
	for k := range 12 {
		f := facts(t, chain(k+1))
		for o := range f.Items {
			rounds := held(t, f, read(cause.Co(f)), o)
			if o == len(f.Items)-1 && rounds != k+2 {
				t.Errorf("a chain of %d took %d rounds", k+1, rounds)
			}
		}
	}
}

// P18.1: all differentiated histories of up to 4 operations.
func TestHistories(t *testing.T) {
	count, more := 0, 0
	lists(4, few(), func(ops []api.Op) {
		cuts(ops, func(h history) {
			f := facts(t, h)
			co := read(cause.Co(f))
			none(t, f, co.made())
			for o := range f.Items {
				if held(t, f, co, o) > 1 {
					more++
				}
				count++
			}
		})
	})
	if count < 80000 || more < 300 {
		t.Errorf("%d operations, %d of more than one round only", count, more)
	}
}

// P18.1, P18.2: it is the least matrix that has all that it must have: of all
// matrices of as many rows those that have it have in common just what is
// answered.
func TestLeastOfAll(t *testing.T) {
	count := 0
	hold := func(h history) {
		f := facts(t, h)
		co := read(cause.Co(f))
		n := len(f.Items)
		common := make([]table, n)
		for o := range common {
			common[o] = drawn(n, func(int, int) bool { return true })
		}
		small(n, func(x table) {
			for o, c := range common {
				if x.enough(f, co, o) {
					common[o] = drawn(n, func(i, j int) bool { return c[i][j] && x[i][j] })
					count++
				}
			}
		})
		for o, want := range common {
			if m, _, _, err := seen.Of(f, co.made(), o); err != api.OK || !slices.EqualFunc(read(m), want, slices.Equal) {
				t.Fatalf("Of(%s, %d) = %v, error %d; the least is %v", brief(f), o, read(m), err, want)
			}
		}
	}
	lists(3, []api.Op{wr("x", 1), wr("x", 2), wr("y", 1), rd("x", 1), rd("x", 2), rd("x", 0)}, func(ops []api.Op) { cuts(ops, hold) })
	hold(history{{wr("x", 1)}, {wr("x", 2), rd("x", 1), rd("x", 2)}})
	hold(history{{wr("x", 1)}, {wr("x", 2)}, {rd("x", 1), rd("x", 2)}})
	hold(history{{wr("x", 1), rd("x", 2)}, {wr("x", 2), rd("x", 1)}})
	if count < 10000 {
		t.Errorf("%d matrices only", count)
	}
}

// P18.2: it is in each matrix that has all that it must have, of those that
// come of it with some more pairs, or of causal order pair by pair in another
// order; and it has all conflicts (layer 17) of kept reads.
func TestLeast(t *testing.T) {
	draw := chance(5)
	for n := range 24 {
		f := facts(t, dealt(n+4, 1+draw(3), 1+draw(4), draw))
		co := read(cause.Co(f))
		for o := range f.Items {
			m, _, _, err := seen.Of(f, co.made(), o)
			if has := read(m); err != api.OK || !has.enough(f, co, o) {
				t.Fatalf("Of(%s, %d), error %d, lacks something", brief(f), o, err)
			}
			kept := past.Kept(f, o)
			for _, e := range clash.Edges(f, m) {
				if slices.Contains(kept, e.R) && !mat.Has(m, e.W1, e.W2) {
					t.Fatalf("Of(%s, %d) lacks %v", brief(f), o, e)
				}
			}
			for more := range 4 {
				x := co.first(o)
				for range more {
					x[draw(len(x))][draw(len(x))] = true
				}
				x = x.hull()
				for l := x.wants(f, o); len(l) > 0; l = x.wants(f, o) {
					x = x.with(l[draw(len(l))]).hull()
				}
				if !read(m).within(x) {
					t.Fatalf("Of(%s, %d) isn't in %v", brief(f), o, x)
				}
				if more == 0 && !x.within(read(m)) {
					t.Fatalf("Of(%s, %d) lacks something of %v", brief(f), o, x)
				}
			}
		}
	}
}

// P18.1: numbers around the ends of words, and values at the ends of int.
func TestLarge(t *testing.T) {
	rounds := map[int]int{}
	for _, n := range []int{5, 31, 32, 33, 63, 64, 65, 127, 128, 129} {
		for k := range 6 {
			draw := chance(uint64(n + 1000*k))
			h := dealt(n, 2+draw(5), 1+draw(4), draw)
			if k%3 == 2 {
				// Now reads stand ahead of what they read from.
				for _, s := range h {
					slices.Reverse(s)
				}
			}
			f := facts(t, h)
			co := read(cause.Co(f))
			for o := n - 1; o >= 0; o -= 1 + draw(n/4+1) {
				rounds[held(t, f, co, o)]++
			}
		}
	}
	if rounds[1] < 10 || rounds[2] < 50 || rounds[3] < 20 {
		t.Errorf("so many rounds, and how many times: %v", rounds)
	}
	f := facts(t, history{nil, {wr("x", math.MinInt)}, nil, {wr("x", math.MaxInt), rd("x", math.MinInt), wr("x", -1), rd("x", math.MaxInt), rd("x", -1)}})
	for o := range f.Items {
		held(t, f, read(cause.Co(f)), o)
	}
}

// Nothing that is handed in is changed, its spare room neither; what stands in
// the room isn't part of it, and nothing is kept from call to call.
func TestNothingIsChangedOrKept(t *testing.T) {
	room := facts(t, history{{wr("x", 1), wr("x", 3)}, {wr("x", 2), rd("x", 1)}, {rd("x", 1), rd("x", 3), wr("y", 1), rd("x", 2)}})
	room.Vars, room.Items, room.From = slices.Clone(room.Vars), slices.Clone(room.Items), slices.Clone(room.From)
	before := api.Facts{Vars: slices.Clone(room.Vars), Items: slices.Clone(room.Items), From: slices.Clone(room.From)}
	part := api.Facts{Vars: room.Vars[:1], Items: room.Items[:4], From: room.From[:4]}
	for range 3 {
		for _, f := range []api.Facts{part, room} {
			co := read(cause.Co(f))
			none(t, f, co.made())
			for o := range f.Items {
				held(t, f, co, o)
			}
		}
	}
	if !reflect.DeepEqual(room, before) {
		t.Errorf("what was handed in was changed: %s", brief(room))
	}
}

// Answers are their own: what is done to one isn't seen in what was handed in,
// in the next one, nor in another row of it.
func TestAnswersAreTheirOwn(t *testing.T) {
	f := facts(t, history{{wr("x", 1)}, {wr("x", 2), rd("x", 1), wr("y", 1), rd("y", 1)}, {wr("x", 3), rd("z", 0)}})
	co := cause.Co(f)
	before := whole(co)
	for o := range f.Items {
		m, l, rounds, _ := seen.Of(f, co, o)
		want, edges := read(m), slices.Clone(l)
		for i := range m.N {
			m, l, _, _ := seen.Of(f, co, o)
			m.Rows[i][0] ^= 127
			for k := range l {
				l[k] = edge(9, 9, 9)
			}
			for k := range m.N {
				if changed := !slices.Equal(read(m)[k], want[k]); changed != (k == i) {
					t.Errorf("%d: the rows %d and %d of what is answered share words", o, i, k)
				}
			}
			m.Rows[i] = nil
		}
		if !slices.Equal(l, edges) || !slices.EqualFunc(read(m), want, slices.Equal) {
			t.Errorf("%d: what was answered has become %v, %v", o, read(m), l)
		}
		fine(t, f, co, o, want, rounds, edges...)
	}
	if !reflect.DeepEqual(whole(co), before) {
		t.Errorf("causal order has become %v", read(co))
	}
}

// P18.1: the most operations. Half of them write, each in a session of its
// own, and the others, in one session, read what is written, one by one: so
// each write must be ahead of all later ones.
func TestMost(t *testing.T) {
	const half = api.MaxOps / 2
	var h history
	var reads []api.Op
	for i := range half {
		h = append(h, []api.Op{wr("x", i+1)})
		reads = append(reads, rd("x", i+1))
	}
	f := facts(t, append(h, reads))
	co := cause.Co(f)
	var want []api.Edge
	for i := range half {
		for j := i + 1; j < half; j++ {
			want = append(want, edge(i, j, half+j))
		}
	}
	fine(t, f, co, api.MaxOps-1, drawn(api.MaxOps, func(i, j int) bool { return i < j && (j < half || i >= half || i <= j-half) }), 2, want...)
	fine(t, f, co, half+1, of(api.MaxOps, [2]int{0, 1}, [2]int{0, half}, [2]int{0, half + 1}, [2]int{1, half + 1}, [2]int{half, half + 1}), 2, edge(0, 1, half+1))
	fine(t, f, co, half-1, of(api.MaxOps), 1)
	none(t, f, co)

	// One session, in which all is there already.
	ops := make([]api.Op, 0, api.MaxOps)
	for i := range half {
		ops = append(ops, wr("x", i+1), rd("x", i+1))
	}
	f = facts(t, history{ops})
	fine(t, f, cause.Co(f), api.MaxOps-1, drawn(api.MaxOps, func(i, j int) bool { return i < j }), 1)
	fine(t, f, cause.Co(f), half, drawn(api.MaxOps, func(i, j int) bool { return i < j && j <= half }), 1)
}

// P18.1: the most rounds that a chain of so many operations takes.
func TestMostRounds(t *testing.T) {
	const k = (api.MaxOps - 1) / 5
	f := facts(t, chain(k))
	co := cause.Co(f)
	// The writes that are overwritten are numbered from k to 1, as are the
	// sessions of what overwrites them, and the reads of it.
	var want []api.Edge
	var pairs [][2]int
	for i := 1; i <= k; i++ {
		e := edge(2*k+k-i, 2*(k-i), 3*k+2+2*(k-i))
		want = append(want, e)
		pairs = append(pairs, [2]int{e.W1, e.W2})
	}
	o := len(f.Items) - 1
	more, _ := mat.Of(co.N, pairs)
	all, _ := mat.Or(hull.Within(co, past.With(co, o)), more)
	fine(t, f, co, o, read(hull.Close(all)), k+1, want...)
}
