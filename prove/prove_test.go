package prove_test

import (
	"fmt"
	"math"
	"reflect"
	"slices"
	"testing"

	"eyewitness/api"
	"eyewitness/bad"
	"eyewitness/differ"
	"eyewitness/intern"
	"eyewitness/origin"
	"eyewitness/prove"
)

type history = [][]api.Op

// wr is a write, and rd a read.
func wr(name string, val int) api.Op { return api.Op{Write: true, Var: name, Val: val} }
func rd(name string, val int) api.Op { return api.Op{Var: name, Val: val} }

// named is the name of a variable by its number.
func named(i int) string {
	return fmt.Sprintf("v%c%c%c", 'a'+i%26, 'a'+i/26%26, 'a'+i/676)
}

// facts are h, interned and whole; h must be differentiated.
func facts(t *testing.T, h history) api.Facts {
	t.Helper()
	f, err := intern.Of(h)
	if err != api.OK {
		t.Fatalf("Of of %d sessions = %d", len(h), err)
	}
	if i, j, err := differ.Check(f); err != api.OK {
		t.Fatalf("%s isn't differentiated: %d, %d, %d", brief(f), i, j, err)
	}
	return origin.Fill(f)
}

// brief is what f begins with.
func brief(f api.Facts) string {
	return fmt.Sprintf("{%d variables %.20q, %d items %v}", len(f.Vars), f.Vars[:min(4, len(f.Vars))], len(f.Items), f.Items[:min(12, len(f.Items))])
}

// A book is a history's items, and what the words say of them, without the
// layers: what each reads from, and what is in the past of an operation with it
// (of no operation all is).
type book struct {
	items []api.Item
	from  []int
	past  []bool
}

// opened is the book of the facts' items, for the operation o; -1 stands for
// none.
func opened(f api.Facts, o int) *book {
	b := &book{items: f.Items, past: make([]bool, len(f.Items))}
	written := map[[2]int]int{}
	for w, item := range f.Items {
		if item.Write {
			written[[2]int{item.Var, item.Val}] = w
		}
	}
	for i, item := range f.Items {
		from, ok := written[[2]int{item.Var, item.Val}]
		switch {
		case item.Write:
			from = api.Itself
		case !ok && item.Val == 0:
			from = api.Init
		case !ok:
			from = api.Thin
		}
		b.from = append(b.from, from)
		b.past[i] = o < 0
	}
	for todo := []int{o}; o >= 0 && len(todo) > 0; {
		i := todo[len(todo)-1]
		todo = todo[:len(todo)-1]
		if i < 0 || b.past[i] {
			continue
		}
		b.past[i] = true
		todo = append(todo, b.from[i])
		if f.Items[i].Place > 0 {
			todo = append(todo, i-1)
		}
	}
	return b
}

// ahead tells whether i stands ahead of j in its session.
func (b *book) ahead(i, j int) bool {
	return b.items[i].Session == b.items[j].Session && b.items[i].Place < b.items[j].Place
}

// rival tells whether w1 and w2 are unlike writes to one variable.
func (b *book) rival(w1, w2 int) bool {
	x, y := b.items[w1], b.items[w2]
	return w1 != w2 && x.Write && y.Write && x.Var == y.Var
}

// edge tells whether what s says is an edge of its kind, whatever it stands on.
func (b *book) edge(s api.Step) bool {
	switch s.Kind {
	case api.StepPO:
		return b.ahead(s.From, s.To) && s.A == -1 && s.B == -1
	case api.StepRF:
		return b.from[s.To] == s.From && s.A == -1 && s.B == -1
	}
	return s.Kind == api.StepTrans || s.Kind == api.StepRule && b.rival(s.From, s.To) && s.B >= 0 && s.B < len(b.items) && b.from[s.B] == s.To
}

// stands tells whether what s stands on are steps of l, all of which are ahead
// of it, that say what they must.
func stands(s api.Step, l []api.Step) bool {
	say := func(k, from, to int) bool {
		return k >= 0 && k < len(l) && l[k].From == from && l[k].To == to
	}
	switch s.Kind {
	case api.StepTrans:
		return s.A >= 0 && s.A < len(l) && say(s.A, s.From, l[s.A].To) && say(s.B, l[s.A].To, s.To)
	case api.StepRule:
		return say(s.A, s.From, s.B)
	}
	return true
}

// plain is, for each of the steps, whether it is plain.
func plain(l []api.Step) []bool {
	is := make([]bool, len(l))
	for k, s := range l {
		is[k] = s.Kind == api.StepPO || s.Kind == api.StepRF || s.Kind == api.StepTrans && is[s.A] && is[s.B]
	}
	return is
}

// wrong is what is wrong with w as a pattern of f with a proof, by the words;
// nothing, if it is right.
func wrong(f api.Facts, w api.Witness) string {
	b := opened(f, w.O)
	for k, s := range w.Steps {
		if s.From < 0 || s.From >= len(b.items) || s.To < 0 || s.To >= len(b.items) {
			return fmt.Sprintf("step %d, %+v, is of no operations", k, s)
		}
		if !b.edge(s) {
			return fmt.Sprintf("step %d, %+v, is no edge of its kind", k, s)
		}
		if !stands(s, w.Steps[:k]) {
			return fmt.Sprintf("step %d, %+v, stands on what doesn't say it", k, s)
		}
	}
	is := plain(w.Steps)
	for k, s := range w.Steps {
		fits := true
		switch w.Kind {
		case api.ThinAirRead:
			fits = false
		case api.CyclicCO, api.WriteCOInitRead, api.WriteCORead:
			fits = is[k]
		case api.CyclicCF:
			fits = s.Kind != api.StepRule || is[s.A]
		case api.WriteHBInitRead, api.CyclicHB:
			edge := s.Kind == api.StepPO || s.Kind == api.StepRF
			fits = (!edge || b.past[s.To]) && (s.Kind != api.StepRule || b.kept(s.B, w.O))
		}
		if !fits {
			return fmt.Sprintf("step %d, %+v, may not stand in a proof of the kind %d", k, s, w.Kind)
		}
	}
	if !b.pattern(w) {
		return "it names no such pattern"
	}
	first, second := needs(w)
	if !says(w.Steps, w.First, first) || !says(w.Steps, w.Second, second) {
		return fmt.Sprintf("First %d and Second %d don't say %v and %v", w.First, w.Second, first, second)
	}
	return ""
}

// kept tells whether r is a read that is kept for o.
func (b *book) kept(r, o int) bool { return !b.items[r].Write && (r == o || b.ahead(r, o)) }

// pattern tells whether what w names is as its kind says, but for what is ahead
// of what: that is for its steps to say.
func (b *book) pattern(w api.Witness) bool {
	over := func() bool { return b.items[w.W1].Write && b.items[w.W1].Var == b.items[w.R].Var }
	switch w.Kind {
	case api.ThinAirRead:
		return b.from[w.R] == api.Thin
	case api.WriteCOInitRead:
		return b.from[w.R] == api.Init && over()
	case api.WriteCORead:
		return b.from[w.R] == w.W1 && b.rival(w.W1, w.W2)
	case api.WriteHBInitRead:
		return b.from[w.R] == api.Init && over() && b.kept(w.R, w.O)
	}
	return w.Kind == api.CyclicCO || w.Kind == api.CyclicCF || w.Kind == api.CyclicHB
}

// needs is the pairs that First and Second must say; nil stands for nothing.
func needs(w api.Witness) (first, second []int) {
	switch w.Kind {
	case api.CyclicCO, api.CyclicCF:
		return []int{w.O, w.O}, nil
	case api.WriteCOInitRead, api.WriteHBInitRead:
		return []int{w.W1, w.R}, nil
	case api.WriteCORead:
		return []int{w.W1, w.W2}, []int{w.W2, w.R}
	case api.CyclicHB:
		return []int{w.W1, w.W1}, nil
	}
	return nil, nil
}

// says tells whether k is the number of a step that says the pair; -1, if there
// is nothing to say.
func says(l []api.Step, k int, pair []int) bool {
	if pair == nil {
		return k == -1
	}
	return k >= 0 && k < len(l) && l[k].From == pair[0] && l[k].To == pair[1]
}

// fine holds one call of Find, and of Of, against layer 19 and the words.
func fine(t *testing.T, f api.Facts, level int) api.Witness {
	t.Helper()
	want, e := bad.Find(f, level)
	got, err := prove.Find(f, level)
	if err != e {
		t.Fatalf("Find(%s, %d) = %+v, error %d, want %d", brief(f), level, got, err, e)
	}
	if err != api.OK {
		if len(got.Steps) != 0 || !reflect.DeepEqual(got, api.Witness{Steps: got.Steps}) {
			t.Fatalf("Find(%s, %d) = %+v beside the error %d", brief(f), level, got, err)
		}
		return got
	}
	bare := got
	bare.Steps, bare.First, bare.Second = want.Steps, want.First, want.Second
	if !reflect.DeepEqual(bare, want) {
		t.Fatalf("Find(%s, %d) is of %+v, want %+v", brief(f), level, bare, want)
	}
	if !slices.Contains(bad.Kinds(level), got.Kind) {
		t.Fatalf("Find(%s, %d) is of the kind %d", brief(f), level, got.Kind)
	}
	if what := wrong(f, got); what != "" {
		t.Fatalf("Find(%s, %d) = %+v: %s", brief(f), level, cut(got), what)
	}
	if again, err := prove.Of(f, want); err != api.OK || !reflect.DeepEqual(again, got) {
		t.Fatalf("Of(%s, %+v) = %+v, error %d; Find: %+v", brief(f), want, cut(again), err, cut(got))
	}
	return got
}

// cut is w without most of its steps.
func cut(w api.Witness) api.Witness {
	w.Steps = w.Steps[:min(20, len(w.Steps))]
	return w
}

// held holds Find by each level, and tells which kinds were found (0: none),
// level by level.
func held(t *testing.T, h history) []int {
	t.Helper()
	f := facts(t, h)
	var kinds []int
	for level := api.CC; level <= api.CM; level++ {
		kinds = append(kinds, fine(t, f, level).Kind)
	}
	return kinds
}

// found holds Find by each level, and which kinds are found.
func found(t *testing.T, h history, cc, ccv, cm int) {
	t.Helper()
	if kinds := held(t, h); !slices.Equal(kinds, []int{cc, ccv, cm}) {
		t.Errorf("%s: of the kinds %v, want %d, %d, %d", brief(facts(t, h)), kinds, cc, ccv, cm)
	}
}

// rules is how many steps of w are of the kind StepRule.
func rules(w api.Witness) int {
	n := 0
	for _, s := range w.Steps {
		if s.Kind == api.StepRule {
			n++
		}
	}
	return n
}

// chance is a number below one, by a fixed rule without a pattern.
func chance(seed uint64) func(one int) int {
	x := 0x9e3779b97f4a7c15 + seed
	return func(one int) int {
		x ^= x << 13
		x ^= x >> 7
		x ^= x << 17
		return int(x % uint64(one))
	}
}

// dealt is a history of n operations on so many variables, dealt out to
// sessions one by one: writes, reads of writes ahead of them, and now and then
// of the beginning, or out of thin air.
func dealt(n, vars, sessions int, draw func(one int) int) history {
	h := make(history, sessions)
	var writes []api.Op
	for i := range n {
		o := rd(named(draw(vars)), -(draw(40) / 39))
		if k := draw(8); k < 4 {
			o = wr(o.Var, i+1)
			writes = append(writes, o)
		} else if k < 7 && len(writes) > 0 {
			w := writes[len(writes)-1-draw(min(len(writes), 16))]
			o = rd(w.Var, w.Val)
		}
		s := draw(sessions)
		h[s] = append(h[s], o)
	}
	return h
}

// mended is h without those reads that make its causal order bad, as far as
// Find by CC tells.
func mended(t *testing.T, h history) history {
	t.Helper()
	for {
		f := facts(t, h)
		w, err := bad.Find(f, api.CC)
		if err == api.ErrNone {
			return h
		}
		r := w.R
		if w.Kind == api.CyclicCO {
			t.Fatalf("%s goes round", brief(f))
		}
		at := f.Items[r]
		h = slices.Clone(h)
		h[at.Session] = slices.Delete(slices.Clone(h[at.Session]), at.Place, at.Place+1)
	}
}

// woven is two histories, of which the first one has as many sessions or more,
// one within the other.
func woven(g, h history, draw func(one int) int) history {
	both := slices.Clone(g)
	for s, ops := range h {
		both[s] = slices.Clone(both[s])
		at := 0
		for _, o := range ops {
			at += draw(len(both[s]) - at + 1)
			both[s] = slices.Insert(both[s], at, o)
			at++
		}
	}
	return both
}

// missed is a history in which a read from the beginning has missed a write in
// what the last operation has seen.
func missed() history {
	return history{{wr("p", 1), wr("q", 1), wr("r", 1)}, {wr("q", 2), rd("p", 0), rd("r", 1), rd("q", 2)}}
}

// lists calls each for all differentiated lists of up to n operations out of
// these.
func lists(n int, from []api.Op, each func([]api.Op)) {
	var more func(ops []api.Op)
	more = func(ops []api.Op) {
		each(ops)
		for _, o := range from {
			if len(ops) < n && !(o.Write && slices.Contains(ops, o)) {
				more(append(slices.Clone(ops), o))
			}
		}
	}
	more(nil)
}

// cuts calls each for all histories of these operations, in this order, in
// sessions that aren't empty.
func cuts(ops []api.Op, each func(history)) {
	for mask := range 1 << max(len(ops)-1, 0) {
		var h history
		for i, o := range ops {
			if i == 0 || mask>>(i-1)&1 == 1 {
				h = append(h, nil)
			}
			h[len(h)-1] = append(h[len(h)-1], o)
		}
		each(h)
	}
}

// The document's examples of the whole that are differentiated histories, the
// chapter's own among them, and one of the kind 6.
func TestExamples(t *testing.T) {
	found(t, history{{wr("x", 1)}, {rd("x", 1)}}, 0, 0, 0)
	found(t, history{{rd("x", 1)}}, 1, 1, 1)
	found(t, history{{rd("x", 1), wr("y", 1)}, {rd("y", 1), wr("x", 1)}}, 2, 2, 2)
	found(t, history{{wr("x", 1), wr("y", 1)}, {rd("y", 1), rd("x", 0)}}, 3, 3, 3)
	found(t, history{{wr("x", 1), wr("x", 2), wr("y", 1)}, {rd("y", 1), rd("x", 1)}}, 4, 4, 4)
	found(t, history{{wr("x", 1), rd("x", 2)}, {wr("x", 2), rd("x", 1)}}, 0, 5, 0)
	found(t, history{{wr("x", 1), wr("y", 1)}, {wr("x", 2), rd("x", 1), rd("x", 2)}}, 0, 5, 7)
	found(t, missed(), 0, 0, 6)
	found(t, nil, 0, 0, 0)
	found(t, history{nil, {}}, 0, 0, 0)

	w := fine(t, facts(t, history{{rd("x", 1), wr("y", 1)}, {rd("y", 1), wr("x", 1)}}), api.CC)
	for i := range 4 {
		edge := func(s api.Step) bool { return s.From == i && s.To == (i+1)%4 }
		if w.O != 0 || !slices.ContainsFunc(w.Steps, edge) {
			t.Errorf("of O %d: no step of %v says %d, %d", w.O, w.Steps, i, (i+1)%4)
		}
	}
}

// P20.1: what is no level, and what has no pattern, whatever the facts are.
func TestLevels(t *testing.T) {
	for _, h := range []history{nil, {{wr("x", 1)}}, {{rd("x", 1)}}, missed()} {
		f := facts(t, h)
		for _, level := range []int{0, -1, 4, 5, 7, 1<<32 + 1, 1<<8 + 2, math.MinInt, math.MinInt + 1, math.MaxInt} {
			if w, err := prove.Find(f, level); err != api.ErrArg || w.Kind != 0 || len(w.Steps) != 0 {
				t.Errorf("Find(%s, %d) = %+v, %d, want nothing and %d", brief(f), level, w, err, api.ErrArg)
			}
			fine(t, f, level)
		}
	}
	if _, err := prove.Find(facts(t, missed()), api.CCv); err != api.ErrNone {
		t.Errorf("Find of what is consistent: %d, want %d", err, api.ErrNone)
	}
}

// P20.1: what causal order says, by sessions, reads, and both by turns; also
// where a read stands behind its write in one session.
func TestCausalOrder(t *testing.T) {
	same := func(h history, kind int) {
		t.Helper()
		found(t, h, kind, kind, kind)
	}
	same(history{{rd("x", 0), rd("x", 2), rd("x", 3)}}, api.ThinAirRead)
	same(history{{rd("x", 1), wr("x", 1)}}, api.CyclicCO)
	same(history{{rd("u", 0), rd("x", 1), rd("u", 0), wr("y", 1)}, {wr("u", 7), rd("y", 1), rd("x", 1), wr("z", 1)}, {rd("z", 1), wr("x", 1)}}, api.CyclicCO)
	same(history{{wr("x", 1), rd("x", 0)}}, api.WriteCOInitRead)
	same(history{{wr("x", 1), rd("x", 1), rd("x", 0)}}, api.WriteCOInitRead)
	same(history{{rd("y", 1), rd("x", 0)}, {rd("z", 1), wr("y", 1)}, {wr("x", 1), wr("z", 1)}}, api.WriteCOInitRead)
	same(history{{wr("x", 1), wr("x", 2), rd("x", 1)}}, api.WriteCORead)
	same(history{{wr("x", 1), wr("x", 2), rd("x", 2), rd("x", 1)}}, api.WriteCORead)
	// Both things that are said lead through others' sessions, the same ones in
	// part.
	same(history{{rd("y", 1), rd("x", 1)}, {rd("z", 1), wr("x", 2), wr("u", 1)}, {rd("x", 1), wr("z", 1), rd("u", 1), wr("y", 1)}, {wr("x", 1)}}, api.WriteCORead)
}

// P20.1: what conflicts say.
func TestConflicts(t *testing.T) {
	// Of readers alone.
	found(t, history{{rd("x", 1), rd("x", 2)}, {rd("x", 2), rd("x", 1)}, {wr("x", 2)}, {wr("x", 1)}}, 0, 5, 0)
	// Over two variables, and of many reads that say the same.
	found(t, history{{wr("x", 1), wr("y", 2), rd("y", 1), rd("y", 1)}, {wr("y", 1), wr("x", 2), rd("x", 1), rd("x", 1)}}, 0, 5, 0)
	// O is no write; what stands ahead of it isn't in the round.
	long := history{{rd("z", 1), wr("y", 1)}, {wr("x", 1), wr("z", 1)}, {wr("y", 2), wr("x", 2)}, {rd("y", 1), rd("y", 2)}, {rd("x", 2), rd("x", 1)}}
	found(t, slices.Concat(history{{rd("x", 0), wr("z", 2)}}, long), 0, 5, 0)
	// A write is ahead of another one by causal order, and by a conflict.
	found(t, history{{wr("x", 1), wr("x", 2), rd("x", 3), rd("x", 2)}, {wr("x", 3), rd("x", 2), rd("x", 3)}}, 0, 5, 7)
}

// P20.1: what operations have seen.
func TestSeen(t *testing.T) {
	// Of the reads that want an edge only some are kept: those of other sessions
	// in O's past aren't, nor are those outside of it.
	found(t, history{{rd("x", 2), rd("x", 1), wr("y", 1)}, {wr("x", 1)}, {wr("x", 2)}, {rd("y", 1), rd("x", 1), rd("x", 2)}, {rd("x", 1), rd("x", 2)}}, 0, 5, 7)
	// All that stand behind O in its session have seen it, too.
	found(t, history{{wr("x", 1), wr("y", 1), rd("y", 1)}, {wr("x", 2), rd("x", 1), rd("y", 1), rd("x", 2), wr("y", 3), rd("x", 2), rd("y", 3)}}, 0, 5, 7)
	// Both kinds in what one operation has seen.
	found(t, history{{wr("z", 1), wr("x", 1), wr("y", 1)}, {wr("x", 2), rd("z", 0), rd("x", 1), rd("y", 1), rd("x", 2)}}, 0, 5, 6)
	// It may be ahead of a read by one that is kept only behind it.
	found(t, history{{rd("z", 0), wr("x", 2), rd("z", 0), rd("y", 1), rd("x", 2)}, {wr("z", 1), wr("x", 1), wr("y", 1)}}, 0, 0, 6)
	// Of what O has seen only conflicts that come of others go round.
	found(t, history{{rd("z", 2), wr("z", 1), wr("x", 1), wr("y", 1)}, {wr("x", 2), rd("z", 2), rd("y", 1), rd("x", 2)}, {wr("z", 2)}}, 0, 0, 7)
}

// P20.1, P20.2: all differentiated histories of up to 4 operations.
func TestHistories(t *testing.T) {
	count := map[int]int{}
	few := []api.Op{wr("x", 1), wr("x", 2), wr("y", 1), rd("x", 1), rd("x", 2), rd("y", 1), rd("x", 0), rd("y", 2)}
	lists(4, few, func(ops []api.Op) {
		cuts(ops, func(h history) {
			for _, kind := range held(t, h) {
				count[kind]++
			}
		})
	})
	if count[0] < 1000 || count[1] < 1000 || count[2] < 100 || count[3] < 100 || count[4] < 20 || count[5] < 5 || count[7] < 3 {
		t.Errorf("so many of each kind: %v", count)
	}
}

// P20.1, P20.2: histories without a pattern, around the ends of words.
func TestLarge(t *testing.T) {
	count := map[int]int{}
	for _, n := range []int{5, 9, 14, 20, 31, 33, 63, 64, 65, 66, 100, 130} {
		for k := range 60 {
			draw := chance(uint64(n + 1000*k))
			h := dealt(n, 1+draw(5), 2+draw(5), draw)
			for _, s := range h {
				// Now reads stand ahead of what they read from.
				if k%10 == 0 {
					slices.Reverse(s)
				}
			}
			for _, kind := range held(t, h) {
				count[kind]++
			}
		}
	}
	for kind := api.ThinAirRead; kind <= api.WriteCORead; kind++ {
		if count[kind] < 50 {
			t.Errorf("so many of each kind: %v", count)
		}
	}
}

// P20.1, P20.2: histories without a pattern in whose causal order nothing is
// bad.
func TestMended(t *testing.T) {
	count := map[int]int{}
	most := map[int]int{}
	for k := range 900 {
		draw := chance(uint64(k))
		h := mended(t, dealt(8+draw(70), 1+draw(5), 2+draw(5), draw))
		f := facts(t, woven(h, missed()[:draw(3)], draw))
		for level := api.CCv; level <= api.CM; level++ {
			w := fine(t, f, level)
			count[w.Kind]++
			most[w.Kind] = max(most[w.Kind], rules(w))
		}
	}
	if count[0] < 50 || count[5] < 100 || count[6] < 20 || count[7] < 100 || most[5] < 3 || most[6] < 2 || most[7] < 3 {
		t.Errorf("so many of each kind: %v, with up to so many rules: %v", count, most)
	}
}

// P20.1: what steps say is found across the ends of words.
func TestMoved(t *testing.T) {
	for k := range 135 {
		var ahead []api.Op
		for i := range k {
			ahead = append(ahead, wr("ahead", i+1))
		}
		moved := func(h history, cc, ccv, cm int) {
			t.Helper()
			found(t, append(history{ahead}, h...), cc, ccv, cm)
		}
		moved(history{{rd("x", 0), rd("x", 1), wr("y", 1)}, {rd("y", 1), wr("x", 1)}}, 2, 2, 2)
		moved(history{{wr("y", 1), wr("x", 1), wr("x", 2)}, {rd("x", 2), rd("x", 0)}}, 3, 3, 3)
		moved(history{{wr("y", 1), wr("x", 1), wr("x", 2), wr("x", 3)}, {rd("x", 3), rd("x", 1)}}, 4, 4, 4)
		moved(history{{rd("y", 0)}, {wr("x", 1), rd("x", 2)}, {wr("x", 2), rd("x", 1)}}, 0, 5, 0)
		moved(missed(), 0, 0, 6)
		moved(history{{wr("x", 1), wr("y", 1)}, {wr("x", 2), rd("x", 1), rd("x", 2)}}, 0, 5, 7)
	}
}

// Nothing that is handed in is changed, its spare room neither; what stands in
// the room isn't part of it, and nothing is kept from call to call.
func TestNothingIsChangedOrKept(t *testing.T) {
	room := facts(t, append(missed(), []api.Op{wr("p", 2)}, []api.Op{wr("p", 3), rd("p", 2), rd("p", 3)}))
	room.Vars, room.Items, room.From = slices.Clone(room.Vars), slices.Clone(room.Items), slices.Clone(room.From)
	before := api.Facts{Vars: slices.Clone(room.Vars), Items: slices.Clone(room.Items), From: slices.Clone(room.From)}
	part := api.Facts{Vars: room.Vars, Items: room.Items[:7], From: room.From[:7]}
	less := api.Facts{Vars: room.Vars, Items: room.Items[:6], From: room.From[:6]}
	for range 3 {
		for level := api.CC; level <= api.CM; level++ {
			if kind := fine(t, part, level).Kind; kind != []int{0, 0, 0, 6}[level] {
				t.Errorf("by %d it is of the kind %d", level, kind)
			}
			fine(t, less, level)
			fine(t, room, level)
		}
	}
	if !reflect.DeepEqual(room, before) {
		t.Errorf("what was handed in was changed: %s", brief(room))
	}
}

// Answers are their own: what is done to one isn't seen in the next one.
func TestAnswersAreTheirOwn(t *testing.T) {
	for _, h := range []history{
		{{wr("x", 1), wr("x", 2), wr("y", 1)}, {rd("y", 1), rd("x", 1)}},
		{{wr("x", 1), wr("y", 1)}, {wr("x", 2), rd("x", 1), rd("x", 2)}},
		missed(),
	} {
		f := facts(t, h)
		w := fine(t, f, api.CM)
		before := slices.Clone(w.Steps)
		again := fine(t, f, api.CM)
		for k := range again.Steps[:cap(again.Steps)] {
			again.Steps[:cap(again.Steps)][k] = api.Step{Kind: 9}
		}
		if !slices.Equal(w.Steps, before) || !reflect.DeepEqual(fine(t, f, api.CM), w) {
			t.Errorf("%s: what was answered has become %+v", brief(f), w)
		}
	}
}

// P20.1: the longest round, and the longest ways to reads, of causal order.
func TestMost(t *testing.T) {
	const half = api.MaxOps / 2
	same := func(h history, kind int) {
		t.Helper()
		found(t, h, kind, kind, kind)
	}
	var h history
	for i := range half {
		h = append(h, []api.Op{rd(named(i), 1), wr(named(i+1), 1)})
	}
	slices.Reverse(h)
	round := slices.Clone(h)
	round[0] = []api.Op{rd(named(half-1), 1), wr(named(0), 1)}
	same(round, api.CyclicCO)
	h[half-1] = []api.Op{wr("x", 1), wr(named(1), 1)}
	h[0] = []api.Op{rd(named(half-1), 1), rd("x", 0)}
	same(h, api.WriteCOInitRead)
	h[0][1] = rd("x", 1)
	h[half/2][1] = wr("x", 2)
	h[half/2-1][0] = rd("x", 2)
	same(h, api.WriteCORead)
	h[half/2-1][0] = rd("x", 1)
	found(t, h, 0, 0, 0)
}

// P20.1: a round of so many conflicts as the most operations make.
func TestMostConflicts(t *testing.T) {
	const k = api.MaxOps / 4
	var h, readers history
	for i := range k {
		h = append(h, []api.Op{wr(named(i), 2), wr(named((i+1)%k), 1)})
		readers = append(readers, []api.Op{rd(named(i), 1), rd(named(i), 2)})
	}
	h = append(h, readers...)
	found(t, h, 0, api.CyclicCF, 0)
	if n := rules(fine(t, facts(t, h), api.CCv)); n != k {
		t.Errorf("%d conflicts of %d", n, k)
	}
}

// gate is a history in which so many conflicts, that go round, all lead through
// one long way of reads and writes: up to its first session from each W1, and
// on from its last one to each R.
func gate(conflicts, long int) history {
	var h history
	var first, last []api.Op
	for i := range conflicts {
		h = append(h, []api.Op{wr(named(i), 2), wr(named((i+1)%conflicts), 1)})
		first = append(first, rd(named(i), 1))
		last = append(last, rd(named(i), 2))
	}
	h = append(h, append(first, wr(named(conflicts), 1)))
	for i := range long {
		h = append(h, []api.Op{rd(named(conflicts+i), 1), wr(named(conflicts+i+1), 1)})
	}
	return append(h, append([]api.Op{rd(named(conflicts+long), 1)}, last...))
}

// P20.1: conflicts that have a long way in common.
func TestGate(t *testing.T) {
	for _, n := range [][2]int{{2, 0}, {2, 5}, {3, 40}, {40, 60}} {
		h := gate(n[0], n[1])
		if n := rules(fine(t, facts(t, h), api.CCv)); n < 2 {
			t.Errorf("%d conflicts", n)
		}
		held(t, h)
	}
}

// chain is a history of which the last operation has seen what takes more than
// k rounds. One session writes what is overwritten by others, and one reads the
// latter, and what links them: what one round finds leads to the write that is
// read ahead of what the next round finds by. What the last one finds leads to
// the first read, and so a write of "first" is ahead of the read of it: of val.
func chain(k, val int) history {
	var h history
	over := []api.Op{rd("gate", 1), wr("first", 1)}
	reads := []api.Op{rd(named(2*k), 1), rd("first", val)}
	for i := k; i >= 1; i-- {
		over = append(over, wr(named(i), 1))
		h = append(h, []api.Op{wr(named(i), 2), wr(named(k+i), 1)})
		link := rd(named(k+i-1), 1)
		if i == 1 {
			link = rd("last", 1)
		}
		reads = append(reads, link, rd(named(i), 2))
	}
	return append(h, append(over, wr("last", 1)), reads, []api.Op{wr("first", 2), wr("gate", 1)})
}

// P20.1: what comes of edges that come of edges, up to the most operations.
func TestChain(t *testing.T) {
	for _, k := range []int{1, 2, 3, 12, 40, (api.MaxOps - 7) / 5} {
		for _, of := range []struct{ val, kind, rules int }{{0, api.WriteHBInitRead, k}, {2, api.CyclicHB, k + 1}} {
			w := fine(t, facts(t, chain(k, of.val)), api.CM)
			if w.Kind != of.kind || rules(w) != of.rules {
				t.Errorf("a chain of %d: the kind %d, with %d rules", k, w.Kind, rules(w))
			}
		}
	}
}

// P20.1: the most operations, of which half read in one session what the others
// write, each in a session of its own; the last one reads again what was
// overwritten.
func TestMostReaders(t *testing.T) {
	var h history
	var reads []api.Op
	for i := range api.MaxOps - 500 {
		h = append(h, []api.Op{wr("x", i+1)})
	}
	for i := range 499 {
		reads = append(reads, rd("x", i+1))
	}
	found(t, append(h, append(reads, rd("x", 7))), 0, api.CyclicCF, api.CyclicHB)
}
