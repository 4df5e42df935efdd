package bad_test

import (
	"fmt"
	"math"
	"reflect"
	"slices"
	"testing"

	"eyewitness/api"
	"eyewitness/bad"
	"eyewitness/differ"
	"eyewitness/intern"
	"eyewitness/origin"
)

type history = [][]api.Op

// wr is a write, and rd a read.
func wr(name string, val int) api.Op { return api.Op{Write: true, Var: name, Val: val} }
func rd(name string, val int) api.Op { return api.Op{Var: name, Val: val} }

// pattern is a pattern that names these; -1 stands for what it doesn't name.
func pattern(kind, o, r, w2, w1 int) api.Witness {
	return api.Witness{Kind: kind, R: r, W1: w1, W2: w2, O: o, First: -1, Second: -1}
}

// alone are the operations, each in a session of its own.
func alone(ops ...api.Op) history {
	var h history
	for _, o := range ops {
		h = append(h, []api.Op{o})
	}
	return h
}

// named is the name of a variable by its number.
func named(i int) string {
	return fmt.Sprintf("v%c%c%c", 'a'+i%26, 'a'+i/26%26, 'a'+i/676)
}

// facts are h, interned and whole; h must be differentiated.
func facts(t *testing.T, h history) api.Facts {
	t.Helper()
	f, err := intern.Of(h)
	if err != api.OK {
		t.Fatalf("Of of %d sessions = %d", len(h), err)
	}
	if i, j, err := differ.Check(f); err != api.OK {
		t.Fatalf("%s isn't differentiated: %d, %d, %d", brief(f), i, j, err)
	}
	return origin.Fill(f)
}

// brief is what f begins with.
func brief(f api.Facts) string {
	return fmt.Sprintf("{%d variables %.20q, %d items %v}", len(f.Vars), f.Vars[:min(4, len(f.Vars))], len(f.Items), f.Items[:min(8, len(f.Items))])
}

// A table says of each pair whether it is there: what patterns there are is
// worked out on tables, without the layers.
type table [][]bool

func drawn(n int, has func(i, j int) bool) table {
	t := make(table, n)
	for i := range t {
		t[i] = make([]bool, n)
		for j := range t[i] {
			t[i][j] = has(i, j)
		}
	}
	return t
}

// hull is what follows from the table's pairs, by ways of them.
func (t table) hull() table {
	reached := drawn(len(t), func(int, int) bool { return false })
	for i := range t {
		for todo := []int{i}; len(todo) > 0; todo = todo[1:] {
			for j, leads := range t[todo[0]] {
				if leads && !reached[i][j] {
					reached[i][j] = true
					todo = append(todo, j)
				}
			}
		}
	}
	return reached
}

// A book is facts, and what the words say of them: which write each read is
// from, causal order, the hull of it and its conflicts, and what each
// operation has seen, so far as that was asked for.
type book struct {
	f      api.Facts
	from   []int
	co, cf table
	hb     []table
}

// opened is the book of the facts, by their items alone.
func opened(f api.Facts) *book {
	n := len(f.Items)
	b := &book{f: f, hb: make([]table, n)}
	for r, item := range f.Items {
		from := api.Thin
		if item.Val == 0 {
			from = api.Init
		}
		for w, a := range f.Items {
			if a.Write && b.like(w, r) && a.Val == item.Val {
				from = w
			}
		}
		if item.Write {
			from = api.Itself
		}
		b.from = append(b.from, from)
	}
	b.co = drawn(n, func(i, j int) bool {
		return f.Items[i].Session == f.Items[j].Session && f.Items[i].Place < f.Items[j].Place || b.from[j] == i
	}).hull()
	b.cf = drawn(n, func(i, j int) bool { return b.co[i][j] || b.wants(b.co, i, j, -1) }).hull()
	return b
}

// like tells whether w is a write to the variable of i.
func (b *book) like(w, i int) bool {
	return b.f.Items[w].Write && b.f.Items[w].Var == b.f.Items[i].Var
}

// kept tells whether r is a read that is kept for o.
func (b *book) kept(r, o int) bool {
	x, last := b.f.Items[r], b.f.Items[o]
	return !x.Write && x.Session == last.Session && x.Place <= last.Place
}

// wants tells whether w1 must be ahead of w2, another write to its variable,
// because it is ahead of a read of w2 in the table; of one that is kept for o,
// unless o is -1.
func (b *book) wants(t table, w1, w2, o int) bool {
	if w1 == w2 || !b.f.Items[w2].Write || !b.like(w1, w2) {
		return false
	}
	for r, from := range b.from {
		if from == w2 && t[w1][r] && (o < 0 || b.kept(r, o)) {
			return true
		}
	}
	return false
}

// past tells whether i is o, or ahead of it in causal order.
func (b *book) past(i, o int) bool { return i == o || b.co[i][o] }

// seen is what o has seen.
func (b *book) seen(o int) table {
	if b.hb[o] != nil {
		return b.hb[o]
	}
	n := len(b.f.Items)
	t := drawn(n, func(i, j int) bool { return b.co[i][j] && b.past(i, o) && b.past(j, o) })
	for {
		more := drawn(n, func(i, j int) bool { return t[i][j] || b.wants(t, i, j, o) })
		if reflect.DeepEqual(more, t) {
			b.hb[o] = t
			return t
		}
		t = more.hull()
	}
}

// is tells whether what w names is such a pattern, by the words alone.
func (b *book) is(w api.Witness) bool {
	switch w.Kind {
	case api.ThinAirRead:
		return b.from[w.R] == api.Thin
	case api.CyclicCO:
		return b.co[w.O][w.O]
	case api.WriteCOInitRead:
		return b.from[w.R] == api.Init && b.like(w.W1, w.R) && b.co[w.W1][w.R]
	case api.WriteCORead:
		return b.from[w.R] == w.W1 && w.W1 != w.W2 && b.like(w.W2, w.R) && b.co[w.W1][w.W2] && b.co[w.W2][w.R]
	case api.CyclicCF:
		return b.cf[w.O][w.O]
	case api.WriteHBInitRead:
		return b.kept(w.R, w.O) && b.from[w.R] == api.Init && b.like(w.W1, w.R) && b.seen(w.O)[w.W1][w.R]
	}
	return b.seen(w.O)[w.W1][w.W1]
}

// spans is which numbers each of O, R, W2 and W1 may be of a pattern of the
// kind.
func (b *book) spans(kind int) (o, r, w2, w1 []int) {
	var all []int
	for i := range b.f.Items {
		all = append(all, i)
	}
	no := []int{-1}
	switch kind {
	case api.ThinAirRead:
		return no, all, no, no
	case api.WriteCOInitRead:
		return no, all, no, all
	case api.WriteCORead:
		return no, all, all, all
	case api.CyclicCO, api.CyclicCF:
		return all, no, no, no
	case api.WriteHBInitRead:
		return all, all, no, all
	}
	return all, no, no, all
}

// first is the first pattern of the kind, by O, then R, then W2, then W1, and
// whether there is one: all are tried.
func (b *book) first(kind int) (api.Witness, bool) {
	os, rs, w2s, w1s := b.spans(kind)
	for _, o := range os {
		for _, r := range rs {
			for _, w2 := range w2s {
				for _, w1 := range w1s {
					if w := pattern(kind, o, r, w2, w1); b.is(w) {
						return w, true
					}
				}
			}
		}
	}
	return api.Witness{}, false
}

// levels are the kinds of each level.
var levels = map[int][]int{
	api.CC:  {1, 2, 3, 4},
	api.CCv: {1, 2, 3, 4, 5},
	api.CM:  {1, 2, 3, 4, 6, 7},
}

// fine holds one call of Find against a pattern; the zero one stands for none.
func fine(t *testing.T, f api.Facts, level int, want api.Witness) {
	t.Helper()
	err := api.OK
	if want.Kind == 0 {
		err = api.ErrNone
	}
	got, e := bad.Find(f, level)
	if len(got.Steps) != 0 {
		t.Fatalf("Find(%s, %d) has %d steps", brief(f), level, len(got.Steps))
	}
	got.Steps = nil
	if e != err || !reflect.DeepEqual(got, want) {
		t.Fatalf("Find(%s, %d) = %+v, %d, want %+v, %d", brief(f), level, got, e, want, err)
	}
}

// all holds Find by each level against a pattern.
func all(t *testing.T, h history, cc, ccv, cm api.Witness) {
	t.Helper()
	f := facts(t, h)
	fine(t, f, api.CC, cc)
	fine(t, f, api.CCv, ccv)
	fine(t, f, api.CM, cm)
}

// held holds Find by each level against the words, and tells which kinds were
// found, level by level. What is bad for CC is bad for all levels (P19.2).
func held(t *testing.T, h history) []int {
	t.Helper()
	f := facts(t, h)
	b := opened(f)
	var found []int
	for level := api.CC; level <= api.CM; level++ {
		want := api.Witness{}
		for _, kind := range levels[level] {
			if w, ok := b.first(kind); ok {
				want = w
				break
			}
		}
		fine(t, f, level, want)
		found = append(found, want.Kind)
		if found[0] != 0 && want.Kind != found[0] {
			t.Fatalf("%s is bad for CC by %d, for %d by %d", brief(f), found[0], level, want.Kind)
		}
	}
	return found
}

// chance is a number below one, by a fixed rule without a pattern.
func chance(seed uint64) func(one int) int {
	x := 0x9e3779b97f4a7c15 + seed
	return func(one int) int {
		x ^= x << 13
		x ^= x >> 7
		x ^= x << 17
		return int(x % uint64(one))
	}
}

// dealt is a history of n operations on so many variables, that are dealt out
// to sessions one by one, without a pattern: writes, and reads of what was
// written, now and then of the beginning or out of thin air.
func dealt(n, vars, sessions int, draw func(one int) int) history {
	h := make(history, sessions)
	var writes []api.Op
	for i := range n {
		o := rd(named(draw(vars)), -(draw(16) / 15))
		if k := draw(8); k < 4 {
			o = wr(o.Var, i+1)
			writes = append(writes, o)
		} else if k < 7 && len(writes) > 0 {
			w := writes[len(writes)-1-draw(min(len(writes), 16))]
			o = rd(w.Var, w.Val)
		}
		s := draw(sessions)
		h[s] = append(h[s], o)
	}
	return h
}

// free is a history of n operations on so many variables, dealt out to
// sessions one by one, in whose causal order nothing is bad: what is read is
// any write that isn't overwritten in what the session knows by then.
func free(n, vars, sessions int, draw func(one int) int) history {
	h := make(history, sessions)
	var ops []api.Op
	var knows []map[int]bool
	last := make([]int, sessions)
	for i := range n {
		s := draw(sessions)
		known := map[int]bool{}
		learn := func(j int) {
			known[j] = true
			for k := range knows[j] {
				known[k] = true
			}
		}
		if len(h[s]) > 0 {
			learn(last[s])
		}
		o := wr(named(draw(vars)), i+1)
		if draw(2) == 0 {
			o = rd(o.Var, 0)
			if from := readable(ops, knows, known, o.Var, draw(2) == 0); len(from) > 0 {
				w := from[draw(len(from))]
				learn(w)
				o.Val = ops[w].Val
			}
		}
		last[s] = i
		h[s], ops, knows = append(h[s], o), append(ops, o), append(knows, known)
	}
	return h
}

// missed is a history in which 7, a read from the beginning, has missed writes
// in what 12 has seen.
func missed() history {
	return history{
		{wr("u", 1), wr("z", 1), wr("z", 2), wr("x", 1), wr("y", 1)},
		{wr("x", 2), rd("p", 0), rd("z", 0), rd("u", 0), rd("z", 0), rd("y", 1), rd("p", 0), rd("x", 2), rd("x", 2), wr("p", 1)},
	}
}

// woven is two histories, of which the first one has as many sessions or more,
// one within the other.
func woven(g, h history, draw func(one int) int) history {
	both := slices.Clone(g)
	for s, ops := range h {
		both[s] = slices.Clone(both[s])
		at := 0
		for _, o := range ops {
			at += draw(len(both[s]) - at + 1)
			both[s] = slices.Insert(both[s], at, o)
			at++
		}
	}
	return both
}

// readable is the writes to the variable that aren't overwritten in what is
// known; none, if no write to it is known, and fresh is true.
func readable(ops []api.Op, knows []map[int]bool, known map[int]bool, name string, fresh bool) []int {
	var l []int
	for w, o := range ops {
		if !o.Write || o.Var != name {
			continue
		}
		fresh = fresh && !known[w]
		over := false
		for k := range known {
			over = over || k != w && ops[k].Write && ops[k].Var == name && knows[k][w]
		}
		if !over {
			l = append(l, w)
		}
	}
	if fresh {
		return nil
	}
	return l
}

// lists calls each for all differentiated lists of up to n operations out of
// these.
func lists(n int, from []api.Op, each func([]api.Op)) {
	var more func(ops []api.Op)
	more = func(ops []api.Op) {
		each(ops)
		for _, o := range from {
			if len(ops) < n && !(o.Write && slices.Contains(ops, o)) {
				more(append(slices.Clone(ops), o))
			}
		}
	}
	more(nil)
}

// few are operations on 2 variables: writes, reads of what is written, of the
// beginning, and out of thin air.
func few() []api.Op {
	return []api.Op{wr("x", 1), wr("x", 2), wr("y", 1), rd("x", 1), rd("x", 2), rd("y", 1), rd("x", 0), rd("y", 2)}
}

// cuts calls each for all histories of these operations, in this order, in
// sessions that aren't empty.
func cuts(ops []api.Op, each func(history)) {
	for mask := range 1 << max(len(ops)-1, 0) {
		var h history
		for i, o := range ops {
			if i == 0 || mask>>(i-1)&1 == 1 {
				h = append(h, nil)
			}
			h[len(h)-1] = append(h[len(h)-1], o)
		}
		each(h)
	}
}

// The document's ten examples of the whole, but for those that aren't
// differentiated or no history, and that of the given tests for the kind 6.
func TestExamples(t *testing.T) {
	var no api.Witness
	all(t, history{{wr("x", 1)}, {rd("x", 1)}}, no, no, no)
	w := pattern(api.ThinAirRead, -1, 0, -1, -1)
	all(t, history{{rd("x", 1)}}, w, w, w)
	w = pattern(api.CyclicCO, 0, -1, -1, -1)
	all(t, history{{rd("x", 1), wr("y", 1)}, {rd("y", 1), wr("x", 1)}}, w, w, w)
	w = pattern(api.WriteCOInitRead, -1, 3, -1, 0)
	all(t, history{{wr("x", 1), wr("y", 1)}, {rd("y", 1), rd("x", 0)}}, w, w, w)
	w = pattern(api.WriteCORead, -1, 4, 1, 0)
	all(t, history{{wr("x", 1), wr("x", 2), wr("y", 1)}, {rd("y", 1), rd("x", 1)}}, w, w, w)
	w = pattern(api.CyclicCF, 0, -1, -1, -1)
	all(t, history{{wr("x", 1), rd("x", 2)}, {wr("x", 2), rd("x", 1)}}, no, w, no)
	w = pattern(api.CyclicHB, 4, -1, -1, 0)
	all(t, history{{wr("x", 1), wr("y", 1)}, {wr("x", 2), rd("x", 1), rd("x", 2)}}, no, pattern(api.CyclicCF, 0, -1, -1, -1), w)
	w = pattern(api.WriteHBInitRead, 6, 4, -1, 0)
	all(t, history{{wr("z", 1), wr("x", 1), wr("y", 1)}, {wr("x", 2), rd("z", 0), rd("y", 1), rd("x", 2)}}, no, no, w)
	all(t, nil, no, no, no)
	all(t, history{nil, {}}, no, no, no)
}

// P19.1: the kinds of each level, and Find for what is none, whatever the
// facts are.
func TestLevels(t *testing.T) {
	for level, want := range levels {
		for range 2 {
			l := bad.Kinds(level)
			if !slices.Equal(l, want) {
				t.Errorf("Kinds(%d) = %v, want %v", level, l, want)
			}
			// Answers are their own, their spare room too.
			for i := range l[:cap(l)] {
				l[:cap(l)][i] = 9
			}
		}
	}
	good := facts(t, alone(wr("x", 1)))
	worse := facts(t, alone(rd("x", 1)))
	for _, level := range []int{0, -1, 4, 5, 7, 1<<32 + 1, 1<<8 + 2, math.MinInt, math.MinInt + 1, math.MaxInt} {
		if l := bad.Kinds(level); len(l) != 0 {
			t.Errorf("Kinds(%d) = %v", level, l)
		}
		for _, f := range []api.Facts{facts(t, nil), good, worse} {
			if w, err := bad.Find(f, level); err != api.ErrArg || !reflect.DeepEqual(w, api.Witness{}) {
				t.Errorf("Find(%s, %d) = %+v, %d, want nothing and %d", brief(f), level, w, err, api.ErrArg)
			}
		}
	}
}

// P19.1: what is bad in causal order, of each kind the first one.
func TestCausalOrder(t *testing.T) {
	same := func(h history, w api.Witness) {
		t.Helper()
		all(t, h, w, w, w)
		held(t, h)
	}
	var no api.Witness
	// Out of thin air is the first kind, be there others ahead of it.
	thin := history{{rd("x", 1), wr("y", 1)}, {rd("y", 1), wr("x", 1), rd("x", 0), rd("x", 7), rd("x", 8)}}
	same(thin, pattern(api.ThinAirRead, -1, 5, -1, -1))
	// Only a read of 0 is from the beginning; what is written to another
	// variable isn't read.
	same(alone(rd("x", 0), wr("x", 3), rd("y", 3)), pattern(api.ThinAirRead, -1, 2, -1, -1))
	same(alone(rd("x", -1)), pattern(api.ThinAirRead, -1, 0, -1, -1))
	// It goes round from 3 on: what leads there isn't in it.
	round := history{{wr("z", 1)}, {rd("x", 0)}, {rd("z", 1)}, {rd("x", 1), wr("y", 1)}, {rd("y", 1), wr("x", 1), rd("x", 0)}}
	same(round, pattern(api.CyclicCO, 3, -1, -1, -1))
	same(history{{rd("x", 1), wr("x", 1)}}, pattern(api.CyclicCO, 0, -1, -1, -1))
	// Of reads from the beginning the first one that missed a write, and the
	// first such write, be it the one that was read or not.
	init := history{{wr("y", 9), wr("x", 1), wr("x", 2), rd("y", 9), rd("z", 0), rd("x", 0), wr("z", 1), rd("z", 0)}}
	same(init, pattern(api.WriteCOInitRead, -1, 5, -1, 1))
	same(history{{rd("x", 0), wr("x", 1), rd("x", 0)}}, pattern(api.WriteCOInitRead, -1, 2, -1, 1))
	same(history{{rd("x", 0), wr("x", 1)}, {rd("x", 0)}}, no)
	same(history{{wr("x", 3), rd("x", 0)}, {wr("y", 1), wr("y", 2), rd("y", 1)}}, pattern(api.WriteCOInitRead, -1, 1, -1, 0))
	// It is ahead of it by way of others' reads.
	same(history{{rd("y", 1), rd("x", 0)}, {rd("z", 1), wr("y", 1)}, {wr("x", 1), wr("z", 1)}}, pattern(api.WriteCOInitRead, -1, 1, -1, 4))
	// Of reads the first one whose write was overwritten, and the first write
	// that did so.
	same(history{{wr("x", 1), wr("y", 1), wr("x", 2), wr("x", 3), rd("x", 3), rd("x", 2), rd("x", 1)}}, pattern(api.WriteCORead, -1, 5, 3, 2))
	same(history{{wr("x", 1), wr("y", 1), wr("x", 2), wr("x", 3), rd("x", 3), rd("x", 1), rd("x", 2)}}, pattern(api.WriteCORead, -1, 5, 2, 0))
	same(history{{wr("x", 1), wr("y", 1), rd("x", 1)}, {rd("x", 1), wr("x", 2)}}, no)
	same(history{{wr("x", 1)}, {wr("x", 2), rd("x", 1)}, {wr("x", 3), rd("x", 1)}}, no)
	same(history{{rd("y", 1), rd("x", 1)}, {rd("x", 1), wr("x", 2), wr("y", 1)}, {wr("x", 1)}}, pattern(api.WriteCORead, -1, 1, 3, 5))
}

// P19.1: what is bad by conflicts.
func TestConflicts(t *testing.T) {
	var no api.Witness
	ccv := func(h history, w, cm api.Witness) {
		t.Helper()
		all(t, h, no, w, cm)
		held(t, h)
	}
	two := history{{rd("y", 0)}, {wr("y", 1)}, {wr("x", 1), rd("x", 2)}, {wr("x", 2), rd("x", 1)}}
	ccv(two, pattern(api.CyclicCF, 2, -1, -1, -1), no)
	// Of readers alone.
	ccv(history{{rd("x", 1), rd("x", 2)}, {rd("x", 2), rd("x", 1)}, {wr("x", 2)}, {wr("x", 1)}}, pattern(api.CyclicCF, 4, -1, -1, -1), no)
	// Over two variables: each write is ahead of one of the other session's by
	// a conflict.
	ccv(history{{wr("x", 1), wr("y", 2), rd("y", 1)}, {wr("y", 1), wr("x", 2), rd("x", 1)}}, pattern(api.CyclicCF, 0, -1, -1, -1), no)
	ccv(history{{wr("x", 1), wr("y", 2), rd("y", 1), rd("x", 2)}, {wr("y", 1), wr("x", 2)}}, no, no)
	// What leads from write to write by a read goes round, too: the least of the
	// round is the read.
	long := history{{rd("z", 1), wr("y", 1)}, {wr("x", 1), wr("z", 1)}, {wr("y", 2), wr("x", 2)}, {rd("y", 1), rd("y", 2)}, {rd("x", 2), rd("x", 1)}}
	ccv(long, pattern(api.CyclicCF, 0, -1, -1, -1), no)
	ccv(slices.Concat(history{{rd("x", 0), wr("z", 2)}}, long), pattern(api.CyclicCF, 2, -1, -1, -1), no)
	// By causal order alone: here a conflict leads to another one, that would
	// go round.
	far := history{{rd("z", 2), wr("z", 1), wr("x", 1), wr("y", 1)}, {wr("x", 2), rd("z", 2), rd("y", 1), rd("x", 2)}, {wr("z", 2)}}
	ccv(far, no, pattern(api.CyclicHB, 7, -1, -1, 0))
}

// P19.1: what is bad by what operations have seen.
func TestSeen(t *testing.T) {
	var no api.Witness
	cm := func(h history, w api.Witness) {
		t.Helper()
		fine(t, facts(t, h), api.CC, no)
		fine(t, facts(t, h), api.CM, w)
		held(t, h)
	}
	// Of all operations the first one that has seen it, though all that stand
	// behind it in its session have, too.
	late := history{{wr("u", 1), wr("v", 1), rd("v", 1)}, {rd("u", 1), rd("v", 1)}, {rd("v", 1), rd("u", 1), wr("u", 2), rd("v", 1), rd("u", 2), wr("v", 2)}}
	cm(late, no)
	seen := history{{wr("x", 1), wr("y", 1), rd("y", 1)}, {wr("x", 2), rd("x", 1), rd("y", 1), rd("x", 2), wr("y", 3), rd("x", 2), rd("y", 3)}}
	cm(seen, pattern(api.CyclicHB, 6, -1, -1, 0))
	cm(slices.Concat(late, seen), pattern(api.CyclicHB, 17, -1, -1, 11))
	cm(slices.Concat(seen, history{{wr("x", 3), rd("x", 1), rd("x", 3)}}), pattern(api.CyclicHB, 6, -1, -1, 0))
	cm(slices.Concat(history{{wr("x", 3), rd("x", 1), rd("x", 3)}}, seen), pattern(api.CyclicHB, 2, -1, -1, 0))
	// What is ahead of itself only in what later ones have seen isn't told.
	cm(history{{wr("p", 1)}, {wr("x", 1)}, {wr("x", 2), rd("x", 1), rd("x", 2), wr("p", 2), rd("p", 1), rd("p", 2)}}, pattern(api.CyclicHB, 4, -1, -1, 1))
	// Of reads from the beginning the first one that missed a write, and the
	// first such write.
	cm(missed(), pattern(api.WriteHBInitRead, 12, 7, -1, 1))
	// It may be ahead of it by a read that is kept only behind it.
	cm(history{{rd("z", 0), wr("x", 2), rd("z", 0), rd("y", 1), rd("x", 2)}, {wr("z", 1), wr("x", 1), wr("y", 1)}}, pattern(api.WriteHBInitRead, 4, 2, -1, 5))
	// Reads of other sessions aren't kept.
	cm(history{{wr("x", 2), rd("z", 0), wr("q", 1)}, {wr("z", 1), wr("x", 1), wr("y", 1)}, {rd("q", 1), rd("y", 1), rd("x", 2)}}, no)
	// The kind 6 is ahead of the kind 7, whichever operation is of it.
	cm(slices.Concat(history{{wr("q", 1)}, {wr("q", 2), rd("q", 1), rd("q", 2)}}, missed()), pattern(api.WriteHBInitRead, 16, 11, -1, 5))
	cm(slices.Concat(missed(), history{{wr("q", 1)}, {wr("q", 2), rd("q", 1), rd("q", 2)}}), pattern(api.WriteHBInitRead, 12, 7, -1, 1))
	// One operation has seen both.
	both := history{{wr("z", 1), wr("x", 1), wr("y", 1)}, {wr("x", 2), rd("z", 0), rd("x", 1), rd("y", 1), rd("x", 2)}}
	cm(both, pattern(api.WriteHBInitRead, 7, 4, -1, 0))
}

// P19.1, P19.2: all differentiated histories of up to 4 operations.
func TestHistories(t *testing.T) {
	count := map[int]int{}
	lists(4, few(), func(ops []api.Op) {
		cuts(ops, func(h history) {
			for _, kind := range held(t, h) {
				count[kind]++
			}
		})
	})
	if count[0] < 9000 || count[1] < 60000 || count[2] < 2500 || count[3] < 1500 || count[4] < 100 || count[5] < 5 || count[7] < 3 {
		t.Errorf("so many of each kind: %v", count)
	}
}

// P19.1, P19.2: histories without a pattern, and those in whose causal order
// nothing is bad.
func TestDealt(t *testing.T) {
	count := map[int]int{}
	for k := range 2500 {
		draw := chance(uint64(k))
		n := 3 + draw(14)
		h := free(n, 1+draw(4), 2+draw(2), draw)
		if k%5 == 0 {
			h = dealt(n, 1+draw(3), 1+draw(3), draw)
		}
		if k%5 == 1 {
			h = woven(h, missed(), draw)
		}
		if k%10 == 0 {
			// Now reads stand ahead of what they read from.
			for _, s := range h {
				slices.Reverse(s)
			}
		}
		for _, kind := range held(t, h) {
			count[kind]++
		}
	}
	for kind := range 8 {
		if count[kind] < 20 {
			t.Errorf("so many of each kind: %v", count)
			break
		}
	}
}

// P19.1: numbers around the ends of words, and values at the ends of int.
func TestLarge(t *testing.T) {
	count := map[int]int{}
	for _, n := range []int{31, 32, 33, 63, 64, 65} {
		for k := range 9 {
			draw := chance(uint64(n + 1000*k))
			for _, kind := range held(t, free(n, 1+draw(n), 2+draw(n/4), draw)) {
				count[kind]++
			}
		}
	}
	if count[0] < 100 || count[5] < 5 || count[7] < 3 {
		t.Errorf("so many of each kind: %v", count)
	}
	held(t, history{nil, {wr("x", math.MinInt)}, nil, {wr("x", math.MaxInt), rd("x", math.MinInt), wr("x", -1), rd("x", math.MaxInt), rd("x", -1)}})
	held(t, history{{wr("x", math.MinInt), rd("x", math.MaxInt)}, {wr("x", math.MaxInt), rd("x", math.MinInt)}})
	held(t, history{{wr("x", math.MinInt), rd("x", math.MinInt+1)}})
}

// some tells whether one of the orders of these operations that respect causal
// order is as wanted: they are tried one by one.
func (b *book) some(l []int, wanted func(order []int) bool) bool {
	var more func(order []int) bool
	more = func(order []int) bool {
		if len(order) == len(l) {
			return wanted(order)
		}
		for _, i := range l {
			next := !slices.Contains(order, i)
			for _, j := range l {
				next = next && (slices.Contains(order, j) || !b.co[j][i])
			}
			if next && more(append(order, i)) {
				return true
			}
		}
		return false
	}
	return more(nil)
}

// with is those of l that are o, or ahead of it in causal order.
func (b *book) with(l []int, o int) []int {
	var some []int
	for _, i := range l {
		if b.past(i, o) {
			some = append(some, i)
		}
	}
	return some
}

// legal tells whether, in this order, those reads that count read what was
// written last.
func (b *book) legal(order []int, counts func(r int) bool) bool {
	last := map[int]int{}
	for _, i := range order {
		item := b.f.Items[i]
		if item.Write {
			last[item.Var] = i
			continue
		}
		w, ok := last[item.Var]
		if !ok {
			w = api.Init
		}
		if counts(i) && b.from[i] != w {
			return false
		}
	}
	return true
}

// consistent tells whether there are the sequences, or the arbitration, that
// the axioms (P1) of the level want: by causal order, since any order that will
// do has its pairs, and fewer pairs want no more.
func (b *book) consistent(level int) bool {
	var every []int
	for i := range b.f.Items {
		every = append(every, i)
	}
	if level == api.CCv {
		return b.some(every, func(order []int) bool {
			for r, item := range b.f.Items {
				if !item.Write && !b.legal(b.with(order, r), func(i int) bool { return i == r }) {
					return false
				}
			}
			return true
		})
	}
	for o, item := range b.f.Items {
		if level == api.CC && item.Write {
			continue
		}
		counts := func(i int) bool { return i == o || level == api.CM && b.kept(i, o) }
		if !b.some(b.with(every, o), func(order []int) bool { return b.legal(order, counts) }) {
			return false
		}
	}
	return true
}

// P19.1: there is no pattern just where the axioms of the level hold.
func TestAxioms(t *testing.T) {
	count := map[[2]int]int{}
	hold := func(h history) {
		f := facts(t, h)
		b := opened(f)
		for level := range levels {
			w, err := bad.Find(f, level)
			if good := b.consistent(level); good != (err == api.ErrNone) {
				t.Fatalf("%s by %d: %+v, %d, but the axioms say %t", brief(f), level, w, err, good)
			}
			count[[2]int{level, w.Kind}]++
		}
	}
	lists(4, few(), func(ops []api.Op) { cuts(ops, hold) })
	for k := range 600 {
		draw := chance(uint64(k))
		hold(free(5+draw(4), 1+draw(2), 2+draw(2), draw))
	}
	hold(history{{wr("z", 1), wr("x", 1), wr("y", 1)}, {wr("x", 2), rd("z", 0), rd("y", 1), rd("x", 2)}})
	hold(history{{rd("z", 2), wr("z", 1), wr("x", 1), wr("y", 1)}, {wr("x", 2), rd("z", 2), rd("y", 1), rd("x", 2)}, {wr("z", 2)}})
	for _, c := range [][2]int{{api.CCv, api.CyclicCF}, {api.CM, api.CyclicHB}, {api.CC, api.WriteCORead}} {
		if count[c] < 10 {
			t.Errorf("so many by level and kind: %v", count)
		}
	}
}

// P19.2: neither the order of sessions nor names count, but for which pattern
// is the first one; and a read at a session's end may go.
func TestWhatDoesNotCount(t *testing.T) {
	for k := range 600 {
		draw := chance(uint64(k))
		h := woven(free(3+draw(9), 1+draw(2), 2+draw(2), draw), missed()[:draw(3)], draw)
		var turned, fewer history
		for _, s := range h {
			var other []api.Op
			for _, o := range s {
				o.Var = "q" + o.Var
				other = append(other, o)
			}
			turned = append(history{other}, turned...)
			if last := len(s) - 1; last >= 0 && !s[last].Write {
				s = s[:last]
			}
			fewer = append(fewer, s)
		}
		for level := range levels {
			_, err := bad.Find(facts(t, h), level)
			_, same := bad.Find(facts(t, turned), level)
			_, less := bad.Find(facts(t, fewer), level)
			if err != same || err == api.ErrNone && less != err {
				t.Fatalf("%v by %d: %d; with the sessions turned about %d, without last reads %d", h, level, err, same, less)
			}
		}
	}
}

// moved is the pattern with k more operations ahead of all that it names.
func moved(w api.Witness, k int) api.Witness {
	if w.Kind == 0 {
		return w
	}
	for _, i := range []*int{&w.O, &w.R, &w.W1, &w.W2} {
		if *i >= 0 {
			*i += k
		}
	}
	return w
}

// P19.1: what patterns name is found across the ends of words.
func TestMoved(t *testing.T) {
	var no api.Witness
	for k := range 135 {
		var ahead []api.Op
		for i := range k {
			ahead = append(ahead, wr("ahead", i+1))
		}
		hold := func(h history, cc, ccv, cm api.Witness) {
			t.Helper()
			all(t, append(history{ahead}, h...), moved(cc, k), moved(ccv, k), moved(cm, k))
		}
		w := pattern(api.ThinAirRead, -1, 1, -1, -1)
		hold(history{{wr("x", 1), rd("x", 2)}}, w, w, w)
		w = pattern(api.CyclicCO, 1, -1, -1, -1)
		hold(history{{rd("x", 0), rd("x", 1), wr("y", 1)}, {rd("y", 1), wr("x", 1)}}, w, w, w)
		w = pattern(api.WriteCOInitRead, -1, 4, -1, 1)
		hold(history{{wr("y", 1), wr("x", 1), wr("x", 2)}, {rd("x", 2), rd("x", 0)}}, w, w, w)
		w = pattern(api.WriteCORead, -1, 5, 2, 1)
		hold(history{{wr("y", 1), wr("x", 1), wr("x", 2), wr("x", 3)}, {rd("x", 3), rd("x", 1)}}, w, w, w)
		hold(history{{rd("y", 0)}, {wr("x", 1), rd("x", 2)}, {wr("x", 2), rd("x", 1)}}, no, pattern(api.CyclicCF, 1, -1, -1, -1), no)
		hold(missed(), no, no, pattern(api.WriteHBInitRead, 12, 7, -1, 1))
		hold(history{{wr("z", 1), wr("x", 1), wr("y", 1)}, {wr("x", 2), rd("x", 1), rd("x", 2)}}, no, pattern(api.CyclicCF, 1, -1, -1, -1), pattern(api.CyclicHB, 5, -1, -1, 1))
	}
}

// Nothing that is handed in is changed, its spare room neither; what stands in
// the room isn't part of it, and nothing is kept from call to call.
func TestNothingIsChangedOrKept(t *testing.T) {
	room := facts(t, missed())
	room.Vars, room.Items, room.From = slices.Clone(room.Vars), slices.Clone(room.Items), slices.Clone(room.From)
	before := api.Facts{Vars: slices.Clone(room.Vars), Items: slices.Clone(room.Items), From: slices.Clone(room.From)}
	part := api.Facts{Vars: room.Vars, Items: room.Items[:12], From: room.From[:12]}
	other := facts(t, history{{rd("x", 1)}})
	for range 3 {
		for level := api.CC; level <= api.CM; level++ {
			fine(t, part, level, api.Witness{})
			if level != api.CM {
				fine(t, room, level, api.Witness{})
			}
			fine(t, other, level, pattern(api.ThinAirRead, -1, 0, -1, -1))
		}
		fine(t, room, api.CM, pattern(api.WriteHBInitRead, 12, 7, -1, 1))
	}
	if !reflect.DeepEqual(room, before) {
		t.Errorf("what was handed in was changed: %s", brief(room))
	}
}

// P19.1: the most operations, nearly all of them in one session, where it is
// found early, late, or at the end.
func TestMost(t *testing.T) {
	var no api.Witness
	for _, at := range []int{2, 1000, api.MaxOps - 3} {
		ops := []api.Op{wr("x", 2), rd("x", 1)}
		for i := range at - 2 {
			ops = append(ops, wr("fill", i+1))
		}
		for len(ops) < api.MaxOps-2 {
			ops = append(ops, rd("x", 2))
		}
		h := history{{wr("x", 1), wr("y", 1)}, ops}
		all(t, h, no, pattern(api.CyclicCF, 0, -1, -1, -1), pattern(api.CyclicHB, 2+at, -1, -1, 0))
	}
}

// P19.1: the most operations, of which half read in one session what the
// others write, each in a session of its own.
func TestMostReaders(t *testing.T) {
	const half = api.MaxOps / 2
	var h history
	var reads []api.Op
	for i := range half {
		h = append(h, []api.Op{wr("x", i+1)})
		reads = append(reads, rd("x", i+1))
	}
	var no api.Witness
	all(t, append(h, reads), no, no, no)
	// Some of them: the last one reads again what was overwritten.
	reads = append(reads[:500], rd("x", 7))
	all(t, append(h, reads), no, pattern(api.CyclicCF, 6, -1, -1, -1), pattern(api.CyclicHB, half+500, -1, -1, 6))
}

// P19.1: the most operations, each in a session of its own, and the longest
// round.
func TestMostSessions(t *testing.T) {
	var no api.Witness
	var h, round history
	const half = api.MaxOps / 2
	for i := range half {
		h = append(h, []api.Op{wr("x", i+1)}, []api.Op{rd("x", half-i)})
		round = append(round, []api.Op{rd(named(i), 1), wr(named((i+1)%half), 1)})
	}
	all(t, h, no, no, no)
	h[api.MaxOps-1][0] = rd("x", half+1)
	w := pattern(api.ThinAirRead, -1, api.MaxOps-1, -1, -1)
	all(t, h, w, w, w)
	w = pattern(api.CyclicCO, 0, -1, -1, -1)
	all(t, round, w, w, w)
}
