package cause_test

import (
	"fmt"
	"math"
	"reflect"
	"slices"
	"testing"

	"eyewitness/api"
	"eyewitness/cause"
	"eyewitness/differ"
	"eyewitness/hull"
	"eyewitness/intern"
	"eyewitness/mat"
	"eyewitness/origin"
)

type history = [][]api.Op

// wr is a write, and rd a read.
func wr(name string, val int) api.Op { return api.Op{Write: true, Var: name, Val: val} }
func rd(name string, val int) api.Op { return api.Op{Var: name, Val: val} }

// facts are h, interned and whole; h must be differentiated.
func facts(t *testing.T, h history) api.Facts {
	t.Helper()
	f, err := intern.Of(h)
	if err != api.OK {
		t.Fatalf("Of of %d sessions = %d", len(h), err)
	}
	if i, j, err := differ.Check(f); err != api.OK {
		t.Fatalf("%s isn't differentiated: %d, %d, %d", brief(f), i, j, err)
	}
	return origin.Fill(f)
}

// brief is what f begins with.
func brief(f api.Facts) string {
	return fmt.Sprintf("{%d variables %.20q, %d items %v, From %v}", len(f.Vars), f.Vars[:min(4, len(f.Vars))], len(f.Items), f.Items[:min(8, len(f.Items))], f.From[:min(8, len(f.From))])
}

// has holds what a call answered of f against pairs.
func has(t *testing.T, call string, f api.Facts, m api.Mat, want [][2]int) {
	t.Helper()
	if m.N != len(f.Items) || !mat.Right(m) {
		t.Fatalf("%s of %s isn't a matrix of as many rows: %d, %d rows", call, brief(f), m.N, len(m.Rows))
	}
	if got := mat.Pairs(m); !slices.Equal(got, want) {
		t.Fatalf("%s of %s has %d pairs %v, want %d %v", call, brief(f), len(got), got[:min(12, len(got))], len(want), want[:min(12, len(want))])
	}
}

func rf(t *testing.T, f api.Facts, want ...[2]int) {
	t.Helper()
	has(t, "Rf", f, cause.Rf(f), want)
}

func edges(t *testing.T, f api.Facts, want ...[2]int) {
	t.Helper()
	has(t, "Edges", f, cause.Edges(f), want)
}

func co(t *testing.T, f api.Facts, want ...[2]int) {
	t.Helper()
	has(t, "Co", f, cause.Co(f), want)
}

// reads tells by the words alone whether b is a read from the write a.
func reads(a, b api.Item) bool {
	return a.Write && !b.Write && a.Var == b.Var && a.Val == b.Val
}

// leads tells by the words alone whether there is an edge from a to b.
func leads(a, b api.Item) bool {
	return reads(a, b) || a.Session == b.Session && a.Place < b.Place
}

// chosen are the pairs of items of f of which this holds.
func chosen(f api.Facts, holds func(a, b api.Item) bool) [][2]int {
	var pairs [][2]int
	for i, a := range f.Items {
		for j, b := range f.Items {
			if holds(a, b) {
				pairs = append(pairs, [2]int{i, j})
			}
		}
	}
	return pairs
}

// reached are the pairs of which the second one is come to from the first one
// by one edge or more.
func reached(n int, edges [][2]int) [][2]int {
	next := make([][]int, n)
	for _, e := range edges {
		next[e[0]] = append(next[e[0]], e[1])
	}
	var pairs [][2]int
	for i := range n {
		been := make([]bool, n)
		for todo := slices.Clone(next[i]); len(todo) > 0; {
			j := todo[0]
			todo = todo[1:]
			if !been[j] {
				been[j] = true
				todo = append(todo, next[j]...)
			}
		}
		for j, ok := range been {
			if ok {
				pairs = append(pairs, [2]int{i, j})
			}
		}
	}
	return pairs
}

// held holds all that is asked of f against the words.
func held(t *testing.T, f api.Facts) {
	t.Helper()
	rf(t, f, chosen(f, reads)...)
	all := chosen(f, leads)
	edges(t, f, all...)
	co(t, f, reached(len(f.Items), all)...)
}

// cuts calls each for all histories of these operations, in this order, in
// sessions that aren't empty.
func cuts(ops []api.Op, each func(history)) {
	for mask := range 1 << max(len(ops)-1, 0) {
		var h history
		for i, o := range ops {
			if i == 0 || mask>>(i-1)&1 == 1 {
				h = append(h, nil)
			}
			h[len(h)-1] = append(h[len(h)-1], o)
		}
		each(h)
	}
}

// small calls each for all differentiated histories of up to n operations out
// of these.
func small(n int, from []api.Op, each func(history)) {
	var more func(ops []api.Op)
	more = func(ops []api.Op) {
		cuts(ops, each)
		for _, o := range from {
			if len(ops) < n && !(o.Write && slices.Contains(ops, o)) {
				more(append(slices.Clone(ops), o))
			}
		}
	}
	more(nil)
}

// few are operations on 2 variables: writes, reads of what is written, of the
// beginning, and out of thin air.
func few() []api.Op {
	return []api.Op{wr("x", 1), wr("x", 2), wr("y", 1), rd("x", 1), rd("x", 2), rd("y", 1), rd("x", 0), rd("y", 2)}
}

// chain are sessions of a read of what the one ahead of it wrote, and a write:
// all operations are ahead of all later ones.
func chain(n int) history {
	h := history{{wr("x", 1)}}
	for i := 1; i < n; i++ {
		h = append(h, []api.Op{rd("x", i), wr("x", i+1)})
	}
	return h
}

func TestExample(t *testing.T) {
	f := facts(t, history{{wr("x", 1)}, {rd("x", 1), wr("y", 1)}})
	rf(t, f, [2]int{0, 1})
	edges(t, f, [2]int{0, 1}, [2]int{1, 2})
	co(t, f, [2]int{0, 1}, [2]int{0, 2}, [2]int{1, 2})
}

// P13.1: answers that are written out.
func TestWrittenOut(t *testing.T) {
	none := facts(t, nil)
	rf(t, none)
	edges(t, none)
	co(t, none)

	// Reads of the beginning and out of thin air have no edge of their own.
	f := facts(t, history{{rd("x", 0)}, {rd("x", 7), wr("x", 1)}, {rd("y", 1)}, {wr("y", -1)}})
	rf(t, f)
	edges(t, f, [2]int{1, 2})
	co(t, f, [2]int{1, 2})

	// Of a session, and of another one; a read that is numbered ahead of its
	// write; two reads of one write.
	f = facts(t, history{{rd("x", -1), rd("y", 1)}, {wr("x", -1), rd("x", -1)}, {wr("y", 1)}})
	rf(t, f, [2]int{2, 0}, [2]int{2, 3}, [2]int{4, 1})
	edges(t, f, [2]int{0, 1}, [2]int{2, 0}, [2]int{2, 3}, [2]int{4, 1})
	co(t, f, [2]int{0, 1}, [2]int{2, 0}, [2]int{2, 1}, [2]int{2, 3}, [2]int{4, 1})

	// It goes round: each operation is ahead of all, itself too.
	f = facts(t, history{{rd("x", 1), wr("y", 1)}, {rd("y", 1), wr("x", 1)}})
	rf(t, f, [2]int{1, 2}, [2]int{3, 0})
	edges(t, f, [2]int{0, 1}, [2]int{1, 2}, [2]int{2, 3}, [2]int{3, 0})
	var all [][2]int
	for i := range 16 {
		all = append(all, [2]int{i / 4, i % 4})
	}
	co(t, f, all...)

	// So does a read ahead of its write in one session.
	f = facts(t, history{{rd("x", 1), wr("x", 1)}})
	edges(t, f, [2]int{0, 1}, [2]int{1, 0})
	co(t, f, [2]int{0, 0}, [2]int{0, 1}, [2]int{1, 0}, [2]int{1, 1})
}

// P13.1: all differentiated histories of up to 4 operations.
func TestSmall(t *testing.T) {
	count := 0
	small(4, few(), func(h history) {
		held(t, facts(t, h))
		count++
	})
	if count < 20000 {
		t.Errorf("%d histories only", count)
	}
}

// P13.1: numbers around the ends of words, and values at the ends of int.
func TestWords(t *testing.T) {
	for _, n := range []int{1, 2, 31, 32, 33, 63, 64, 65, 96, 97} {
		held(t, facts(t, chain(n)))
		h := chain(n)
		slices.Reverse(h)
		held(t, facts(t, h))
		// The last write comes back to the first session: it goes round.
		h[n-1] = append([]api.Op{rd("x", n)}, h[n-1]...)
		held(t, facts(t, h))
	}
	held(t, facts(t, history{{rd("x", math.MinInt), rd("x", math.MaxInt)}, {wr("x", math.MaxInt)}, {wr("x", math.MinInt), rd("y", math.MinInt)}}))
	held(t, facts(t, history{nil, {wr("x", 1)}, nil, nil, {rd("x", 1)}, nil}))
}

// P13.1: the most operations.
func TestMost(t *testing.T) {
	// All in one chain, whose numbers rise.
	h := chain(api.MaxOps / 2)
	h = append(h, []api.Op{rd("x", api.MaxOps/2)})
	f := facts(t, h)
	if got := len(mat.Pairs(cause.Rf(f))); got != api.MaxOps/2 {
		t.Errorf("%d pairs of a write and its read, want %d", got, api.MaxOps/2)
	}
	c := cause.Co(f)
	if !mat.Right(c) || c.N != api.MaxOps {
		t.Fatalf("Co of %d operations isn't a matrix: %d", len(f.Items), c.N)
	}
	if got, want := len(mat.Pairs(c)), api.MaxOps*(api.MaxOps-1)/2; got != want || mat.Has(c, 1, 0) {
		t.Errorf("Co of a chain has %d pairs, want %d", got, want)
	}
	// One write that all sessions read, and one that is ahead of all.
	h = history{{wr("x", 1), wr("y", 1)}}
	for range api.MaxOps - 2 {
		h = append(h, []api.Op{rd("y", 1)})
	}
	f = facts(t, h)
	want := [][2]int{{0, 1}}
	for _, w := range []int{0, 1} {
		for i := 2; i < api.MaxOps; i++ {
			want = append(want, [2]int{w, i})
		}
	}
	co(t, f, want...)
	edges(t, f, append([][2]int{{0, 1}}, want[api.MaxOps-1:]...)...)
	rf(t, f, want[api.MaxOps-1:]...)
	// All in one session that goes round.
	h = history{{rd("x", 1)}}
	for i := range api.MaxOps - 2 {
		h[0] = append(h[0], rd("z", i))
	}
	h[0] = append(h[0], wr("x", 1))
	f = facts(t, h)
	rf(t, f, [2]int{api.MaxOps - 1, 0})
	if got := len(mat.Pairs(cause.Co(f))); got != api.MaxOps*api.MaxOps {
		t.Errorf("Co of a session that goes round has %d pairs", got)
	}
}

// P13.2: causal order has all edges in it, is closed, and is in each closed
// matrix that has them: held against all matrices of up to 3 rows.
func TestLeast(t *testing.T) {
	var closed [4][]api.Mat
	for n := range closed {
		for mask := range 1 << (n * n) {
			m, _ := mat.New(n)
			for k := range n * n {
				if mask>>k&1 == 1 {
					m, _ = mat.Set(m, k/n, k%n)
				}
			}
			if hull.Closed(m) {
				closed[n] = append(closed[n], m)
			}
		}
	}
	small(3, few(), func(h history) {
		f := facts(t, h)
		e, c := cause.Edges(f), cause.Co(f)
		if !mat.Sub(e, c) || !hull.Closed(c) || !mat.Same(c, hull.Close(e)) {
			t.Fatalf("Co of %s hasn't all edges, or isn't closed", brief(f))
		}
		for _, m := range closed[c.N] {
			if mat.Sub(e, m) && !mat.Sub(c, m) {
				t.Fatalf("Co of %s has %v, but %v is closed and has all edges", brief(f), mat.Pairs(c), mat.Pairs(m))
			}
		}
	})
}

// Nothing that is handed in is changed, its spare room neither; what stands in
// the room isn't part of it, and nothing is kept from call to call.
func TestNothingIsChangedOrKept(t *testing.T) {
	room := facts(t, history{{wr("x", 1), wr("y", 1)}, {rd("x", 1), rd("y", 1)}, {rd("x", 1)}})
	kept := api.Facts{Vars: slices.Clone(room.Vars), Items: slices.Clone(room.Items), From: slices.Clone(room.From)}
	part := api.Facts{Vars: room.Vars[:1], Items: room.Items[:3], From: room.From[:3]}
	for range 3 {
		held(t, part)
		co(t, part, [2]int{0, 1}, [2]int{0, 2})
		held(t, room)
		rf(t, room, [2]int{0, 2}, [2]int{0, 4}, [2]int{1, 3})
	}
	if !reflect.DeepEqual(room, kept) {
		t.Errorf("what was handed in was changed: %s", brief(room))
	}
}

// An answer is its own, and no two of its rows share words.
func TestAnswersAreTheirOwn(t *testing.T) {
	f := facts(t, history{{wr("x", 1), wr("y", 1)}, {rd("x", 1), rd("y", 1)}, {rd("x", 1)}, {rd("z", 0)}})
	for call, ask := range map[string]func(api.Facts) api.Mat{"Rf": cause.Rf, "Edges": cause.Edges, "Co": cause.Co} {
		before := mat.Pairs(ask(f))
		m := ask(f)
		for i := range m.Rows {
			own, _ := mat.Of(m.N, mat.Pairs(m))
			own.Rows[i][0] ^= 63
			m.Rows[i][0] ^= 63
			if !mat.Same(m, own) {
				t.Errorf("rows of what %s answers share words with row %d", call, i)
			}
		}
		has(t, call, f, ask(f), before)
	}
}
