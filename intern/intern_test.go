package intern_test

import (
	"fmt"
	"math"
	"reflect"
	"slices"
	"strconv"
	"strings"
	"testing"

	"eyewitness/api"
	"eyewitness/hist"
	"eyewitness/intern"
)

type history = [][]api.Op

// wr is a write, and rd a read.
func wr(name string, val int) api.Op { return api.Op{Write: true, Var: name, Val: val} }
func rd(name string, val int) api.Op { return api.Op{Var: name, Val: val} }

// interned is h by the words alone: its operations in a row, each with its
// spot, and the place of its name among those that came first.
func interned(h history) api.Facts {
	var f api.Facts
	for i, o := range hist.Flat(h) {
		if !slices.Contains(f.Vars, o.Var) {
			f.Vars = append(f.Vars, o.Var)
		}
		s, _ := hist.Spot(h, i)
		f.Items = append(f.Items, api.Item{Session: s.Session, Place: s.Place, Write: o.Write, Var: slices.Index(f.Vars, o.Var), Val: o.Val})
	}
	return f
}

// trimmed is h without sessions at its end that have no operation.
func trimmed(h history) history {
	for len(h) > 0 && len(h[len(h)-1]) == 0 {
		h = h[:len(h)-1]
	}
	return h
}

// copied is f in memory of its own.
func copied(f api.Facts) api.Facts {
	return api.Facts{Vars: slices.Clone(f.Vars), Items: slices.Clone(f.Items), From: slices.Clone(f.From)}
}

// equal holds facts against each other; lists that hold nothing are the same.
func equal(a, b api.Facts) bool {
	return fmt.Sprintf("%q %v %v", a.Vars, a.Items, a.From) == fmt.Sprintf("%q %v %v", b.Vars, b.Items, b.From)
}

// brief is what f begins with.
func brief(f api.Facts) string {
	return fmt.Sprintf("{%d variables %.20q, %d items %v, From %v}", len(f.Vars), f.Vars[:min(6, len(f.Vars))], len(f.Items), f.Items[:min(6, len(f.Items))], f.From[:min(6, len(f.From))])
}

// start is what h begins with.
func start(h history) string {
	return fmt.Sprintf("%d sessions %.300s", len(h), fmt.Sprint(h[:min(20, len(h))]))
}

func of(t *testing.T, h history, want api.Facts) {
	t.Helper()
	f, err := intern.Of(h)
	if err != api.OK || !equal(f, want) {
		t.Fatalf("Of of %d sessions = %s, %d, want %s, %d", len(h), brief(f), err, brief(want), api.OK)
	}
}

func refused(t *testing.T, what string, h history) {
	t.Helper()
	f, err := intern.Of(h)
	if err != api.ErrArg || len(f.Vars) != 0 || len(f.Items) != 0 || len(f.From) != 0 {
		t.Errorf("Of of %s = %s, %d, want none, %d", what, brief(f), err, api.ErrArg)
	}
}

func back(t *testing.T, f api.Facts, want history) {
	t.Helper()
	h, ok := intern.Back(f)
	if !ok || !hist.Same(h, want) {
		t.Fatalf("Back of %s = %s, %t, want %s, true", brief(f), start(h), ok, start(want))
	}
}

func none(t *testing.T, what string, f api.Facts) {
	t.Helper()
	if h, ok := intern.Back(f); len(h) != 0 || ok {
		t.Errorf("Back of %s, %s = %s, %t, want none, false", what, brief(f), start(h), ok)
	}
}

func same(t *testing.T, a, b api.Facts, want bool) {
	t.Helper()
	if intern.Same(a, b) != want || intern.Same(b, a) != want {
		t.Errorf("Same of %s and %s = %t, and turned round %t, want %t", brief(a), brief(b), intern.Same(a, b), intern.Same(b, a), want)
	}
}

// name is the n-th of many names, all unlike.
func name(n int) string {
	s := ""
	for ; n > 0; n /= 26 {
		s += string(rune('a' + n%26))
	}
	return s + "z"
}

// shaped is a history with sessions of these lengths, and of so many names;
// the names come again and again, and not always in one order.
func shaped(names int, lengths ...int) history {
	h := make(history, 0, len(lengths))
	n := 0
	for _, l := range lengths {
		session := make([]api.Op, l)
		for i := range session {
			session[i] = api.Op{Write: n%3 != 1, Var: name((n*n + n/names) % names), Val: n * (1 - n%2*2)}
			n++
		}
		h = append(h, session)
	}
	return h
}

// even is n lengths, each of them l.
func even(n, l int) []int {
	lengths := make([]int, n)
	for i := range lengths {
		lengths[i] = l
	}
	return lengths
}

// shapes are the lengths of sessions of histories that may be: all those of up
// to 5 sessions of up to 3 operations, and greater ones.
func shapes() [][]int {
	l := [][]int{{}}
	for from := 0; len(l[from]) < 5; from++ {
		for n := range 4 {
			l = append(l, append(slices.Clone(l[from]), n))
		}
	}
	return append(l, []int{63, 1, 64, 0, 65}, even(300, 0), even(70, 1), append(even(40, 0), 9), append([]int{9}, even(40, 0)...),
		[]int{api.MaxOps - 1}, []int{api.MaxOps}, []int{0, api.MaxOps, 0}, []int{2048, 2048}, []int{api.MaxOps - 1, 0, 1}, even(api.MaxOps, 1), even(64, 64))
}

// samples are histories with something to be seen in each.
func samples() []history {
	return []history{
		nil, {}, {nil}, {{}}, {{}, nil, {}}, {{wr("x", 1)}}, {{rd("x", 1)}}, {{wr("x", 1), rd("y", 0)}}, {{wr("y", 1)}, {rd("x", 0)}},
		{{wr("w", 1), rd("r", -1)}, {}, {rd("w", 10), wr("r", -10)}}, {{wr("abcdefgh", math.MaxInt), rd("zyxwvuts", math.MinInt)}},
		{{wr("x", 0), wr("x", 0)}, {wr("x", 0)}}, {{}, {rd("x", -7)}, {}}, {{rd("c", 1), rd("b", 1), rd("a", 1)}, {rd("a", 1), rd("c", 1), rd("d", 1), rd("b", 1)}},
		{{rd("a", 0), rd("aa", 0), rd("aaa", 0), rd("aaaaaaaa", 0)}, {rd("aaaaaaab", 0), rd("aa", 0)}},
	}
}

// all are the histories of shapes and samples.
func all() []history {
	l := samples()
	for i, lengths := range shapes() {
		l = append(l, shaped(1+i%7, lengths...))
	}
	return append(l, shaped(api.MaxOps, api.MaxOps), shaped(1, api.MaxOps), shaped(300, even(4, 1024)...))
}

func TestExamples(t *testing.T) {
	h := history{{wr("x", 1), rd("y", 0)}}
	f, err := intern.Of(h)
	if err != api.OK || !slices.Equal(f.Vars, []string{"x", "y"}) || len(f.Items) != 2 || f.Items[0].Var != 0 || f.Items[1].Var != 1 {
		t.Errorf("Of = %s, %d", brief(f), err)
	}
}

// P9.1, Of: facts that are written out.
func TestOf(t *testing.T) {
	of(t, nil, api.Facts{})
	of(t, history{}, api.Facts{})
	of(t, history{{}, nil, {}}, api.Facts{})
	of(t, history{{}, {wr("x", 7)}, {}}, api.Facts{Vars: []string{"x"}, Items: []api.Item{{Session: 1, Write: true, Val: 7}}})
	of(t, history{{rd("b", -1), wr("a", 2)}, {rd("a", 2), rd("c", 3), wr("b", 0)}}, api.Facts{
		Vars: []string{"b", "a", "c"},
		Items: []api.Item{
			{Session: 0, Place: 0, Var: 0, Val: -1}, {Session: 0, Place: 1, Write: true, Var: 1, Val: 2},
			{Session: 1, Place: 0, Var: 1, Val: 2}, {Session: 1, Place: 1, Var: 2, Val: 3}, {Session: 1, Place: 2, Write: true, Var: 0, Val: 0},
		},
	})
}

// P9.1, Of: sessions of all shapes up to the most operations, values to the
// ends, and names that come once, again and always.
func TestOfShapes(t *testing.T) {
	for _, h := range all() {
		of(t, h, interned(h))
	}
	for _, n := range []int{0, 1, -1, 1 << 31, 1 << 32, math.MaxInt, math.MinInt, math.MinInt + 1} {
		of(t, history{{wr("x", n), rd("x", n)}}, api.Facts{Vars: []string{"x"}, Items: []api.Item{{Write: true, Val: n}, {Place: 1, Val: n}}})
	}
}

// P9.1, Of: as many variables as operations, and each of its own number.
func TestOfManyNames(t *testing.T) {
	h := history{nil}
	for n := range api.MaxOps {
		h[0] = append(h[0], rd(name(n), n))
	}
	f, err := intern.Of(h)
	if err != api.OK || len(f.Vars) != api.MaxOps {
		t.Fatalf("Of = %s, %d", brief(f), err)
	}
	for i, item := range f.Items {
		if item.Var != i || f.Vars[i] != name(i) {
			t.Fatalf("the variable %d is %q, and the item's is %d", i, f.Vars[i], item.Var)
		}
	}
	back(t, f, h)
}

// P9.1, Of: sessions without operations aren't limited.
func TestManySessions(t *testing.T) {
	of(t, make(history, 1<<22), api.Facts{})
	h := append(make(history, 1000000), []api.Op{wr("x", 1), wr("x", 2)}, nil)
	f := api.Facts{Vars: []string{"x"}, Items: []api.Item{{Session: 1000000, Write: true, Val: 1}, {Session: 1000000, Place: 1, Write: true, Val: 2}}}
	of(t, h, f)
	back(t, f, h[:1000001])
	f.Items[1].Session--
	none(t, "sessions that fall", f)
}

// P9.1, Of: one operation too many, in one session and in many.
func TestOfTooMany(t *testing.T) {
	for _, lengths := range [][]int{
		{api.MaxOps + 1}, {api.MaxOps + 2}, {api.MaxOps, 1}, {1, api.MaxOps}, {api.MaxOps, 0, 1}, {0, api.MaxOps + 1, 0}, {2048, 2049},
		even(api.MaxOps+1, 1), append(even(64, 64), 1), even(3, api.MaxOps), append(even(5000, 0), api.MaxOps+1),
	} {
		refused(t, fmt.Sprintf("%d sessions", len(lengths)), shaped(5, lengths...))
	}
}

// P9.1, Of: names of all lengths, each byte in them, wherever it is.
func TestOfNames(t *testing.T) {
	for n := range 40 {
		s := strings.Repeat("q", n)
		h := history{{wr("x", 1)}, {rd(s, 2)}}
		if n >= 1 && n <= api.MaxName {
			of(t, h, api.Facts{Vars: []string{"x", s}, Items: []api.Item{{Write: true, Val: 1}, {Session: 1, Var: 1, Val: 2}}})
		} else {
			refused(t, "a name of n letters", h)
		}
	}
	for n := 1; n <= api.MaxName; n++ {
		for at := range n {
			for b := range 256 {
				s := []byte(strings.Repeat("m", n))
				s[at] = byte(b)
				h := history{{rd(string(s), -1)}}
				if b >= 'a' && b <= 'z' {
					of(t, h, api.Facts{Vars: []string{string(s)}, Items: []api.Item{{Val: -1}}})
				} else {
					refused(t, strconv.Quote(string(s)), h)
				}
			}
		}
	}
	for _, wrong := range []string{"", "X", "ninelette", "x1", "x ", "\n", "é", "\xff", "\x00"} {
		for i := range 8 {
			h := shaped(3, 3, 0, 1, 4, 0)
			s, _ := hist.Spot(h, i)
			h[s.Session][s.Place].Var = wrong
			refused(t, "the name "+strconv.Quote(wrong), h)
		}
	}
}

// are tells, rule by rule, whether f are the facts of a history.
func are(f api.Facts) bool {
	if len(f.Items) > api.MaxOps {
		return false
	}
	for i, s := range f.Vars {
		if slices.Index(f.Vars, s) != i || len(s) < 1 || len(s) > api.MaxName || strings.Trim(s, "abcdefghijklmnopqrstuvwxyz") != "" {
			return false
		}
	}
	known, session, place := 0, -1, 0
	for _, item := range f.Items {
		switch {
		case item.Session > session && item.Place == 0:
		case item.Session >= 0 && item.Session == session && item.Place == place+1:
		default:
			return false
		}
		if item.Var < 0 || item.Var > known {
			return false
		}
		known = max(known, item.Var+1)
		session, place = item.Session, item.Place
	}
	return known == len(f.Vars)
}

// held holds Back of f against the rules, and tells what it says.
func held(t *testing.T, f api.Facts) bool {
	t.Helper()
	h, ok := intern.Back(f)
	if ok != are(f) {
		t.Fatalf("Back of %s = %s, %t, want %t", brief(f), start(h), ok, are(f))
	}
	if !ok {
		if len(h) != 0 {
			t.Fatalf("Back of %s = %s beside false", brief(f), start(h))
		}
		return false
	}
	if f.From = nil; !equal(interned(h), f) || !hist.Same(h, trimmed(h)) {
		t.Fatalf("Back of %s = %s, whose facts are %s", brief(f), start(h), brief(interned(h)))
	}
	return true
}

// lists are the lists of variables that small facts are tried with.
func lists() [][]string {
	return [][]string{nil, {"x"}, {"y"}, {"x", "y"}, {"y", "x"}, {"x", "x"}, {"x", "y", "z"}, {"x", "y", "x"}, {"X"}, {""}, {"x", ""}, {"x", "y", "ninelette"}}
}

// P9.1, Back: all facts of up to 2 items with small numbers, and of 3 with
// numbers from 0 to 2.
func TestBackSmall(t *testing.T) {
	var few, fewer []api.Item
	for n := range 64 {
		item := api.Item{Session: n%4 - 1, Place: n/4%4 - 1, Var: n/16%4 - 1, Write: n%3 == 0, Val: n}
		few = append(few, item)
		if item.Session >= 0 && item.Place >= 0 && item.Var >= 0 {
			fewer = append(fewer, item)
		}
	}
	good := 0
	try := func(vars []string, items ...api.Item) {
		if held(t, api.Facts{Vars: vars, Items: items, From: []int{len(items)}}) {
			good++
		}
	}
	for _, vars := range lists() {
		try(vars)
		for _, a := range few {
			try(vars, a)
			for _, b := range few {
				try(vars, a, b)
			}
		}
		for _, a := range fewer {
			for _, b := range fewer {
				for _, c := range fewer {
					try(vars, a, b, c)
				}
			}
		}
	}
	// Of 1 item 3 sessions and 2 names; of 2 items 6 ways to stand in sessions,
	// and 2 names or 2 orders of them; of 3 items 10 ways, and of names 2 that
	// are alone, 3 by 2 orders of two, 1 of three.
	if want := 1 + 3*2 + 6*4 + 10*9; good != want {
		t.Errorf("%d of the facts are a history's, want %d", good, want)
	}
}

// changes are facts with one thing other than in f.
func changes(f api.Facts, at int) []api.Facts {
	var l []api.Facts
	change := func(by func(g *api.Facts)) {
		g := copied(f)
		by(&g)
		l = append(l, g)
	}
	for _, n := range []int{1, -1, 2, 64, -64} {
		change(func(g *api.Facts) { g.Items[at].Session += n })
		change(func(g *api.Facts) { g.Items[at].Place += n })
		change(func(g *api.Facts) { g.Items[at].Var += n })
		change(func(g *api.Facts) { g.Items[at].Val += n })
	}
	for _, n := range []int{math.MaxInt, math.MinInt, 1 << 32, -1 << 32} {
		change(func(g *api.Facts) { g.Items[at].Session = min(n, 1000) })
		change(func(g *api.Facts) { g.Items[at].Place = n })
		change(func(g *api.Facts) { g.Items[at].Var = n })
		change(func(g *api.Facts) { g.Items[at].Val = n })
	}
	change(func(g *api.Facts) { g.Items[at].Write = !g.Items[at].Write })
	change(func(g *api.Facts) { g.Items = slices.Delete(g.Items, at, at+1) })
	change(func(g *api.Facts) { g.Items = slices.Insert(g.Items, at, g.Items[at]) })
	change(func(g *api.Facts) { g.Items = g.Items[:at] })
	next := (at + 1) % len(f.Items)
	change(func(g *api.Facts) { g.Items[at], g.Items[next] = g.Items[next], g.Items[at] })
	for v := range f.Vars[:min(8, len(f.Vars))] {
		other := (v + 1) % len(f.Vars)
		change(func(g *api.Facts) { g.Items[at].Var = v })
		change(func(g *api.Facts) { g.Vars[v], g.Vars[other] = g.Vars[other], g.Vars[v] })
		change(func(g *api.Facts) { g.Vars[v] = g.Vars[other] })
		change(func(g *api.Facts) { g.Vars[v] += "q" })
		change(func(g *api.Facts) { g.Vars[v] = "" })
		change(func(g *api.Facts) { g.Vars[v] = "A" })
		change(func(g *api.Facts) { g.Vars = slices.Delete(g.Vars, v, v+1) })
	}
	change(func(g *api.Facts) { g.Vars = append(g.Vars, "new") })
	change(func(g *api.Facts) { g.Vars = append(g.Vars, g.Vars[0]) })
	change(func(g *api.Facts) { g.Vars = nil })
	change(func(g *api.Facts) { g.Items = nil })
	change(func(g *api.Facts) { g.From = []int{math.MinInt, 0, math.MaxInt} })
	return l
}

// P9.1, Back: facts of histories with one thing changed, P9.1, Same: which
// tells them from what they were, unless the change put in what was there.
func TestBackChanged(t *testing.T) {
	for _, h := range []history{
		{{wr("x", 1)}}, {{}, {}, {rd("x", 1)}}, {{wr("x", 1), rd("y", 2), wr("x", 3)}, {rd("z", 4), rd("y", 5)}}, shaped(4, 3, 0, 1, 4, 2), shaped(3, even(9, 1)...), shaped(20, 64, 0, 64, 3),
	} {
		f := interned(h)
		for at := range min(14, len(f.Items)) {
			yes := 0
			for _, g := range changes(f, at) {
				if held(t, g) {
					yes++
				}
				same(t, f, g, equal(f, g))
			}
			if yes < 8 {
				t.Errorf("only %d changes of the item %d of %s are a history's", yes, at, brief(f))
			}
		}
	}
}

// P9.1, Back: the most items, and one too many, in one session and in many.
func TestBackMost(t *testing.T) {
	for _, lengths := range [][]int{{api.MaxOps}, even(api.MaxOps, 1), even(64, 64), {1, api.MaxOps - 1}} {
		h := shaped(9, lengths...)
		f := interned(h)
		back(t, f, h)
		last := f.Items[api.MaxOps-1]
		for _, more := range []api.Item{{Session: last.Session, Place: last.Place + 1}, {Session: last.Session + 1}, {Session: 1000000}} {
			g := copied(f)
			g.Items = append(g.Items, more)
			none(t, "an item too many", g)
			g.Items = g.Items[1:]
			none(t, "no first item", g)
		}
	}
	none(t, "many items of one spot", api.Facts{Vars: []string{"x"}, Items: make([]api.Item, 1<<20)})
	none(t, "many names", api.Facts{Vars: make([]string, 1<<20), Items: make([]api.Item, 1)})
}

// P9.1, Back: From doesn't count, whatever it holds; and nothing has no items.
func TestBackFrom(t *testing.T) {
	h := history{{wr("x", 1), rd("y", 0)}, {}, {rd("x", 1)}}
	f := interned(h)
	for _, from := range [][]int{nil, {}, {0}, {api.Itself, api.Init, 0}, {math.MaxInt, math.MinInt}, make([]int, 5000)} {
		f.From = from
		back(t, f, h)
		back(t, api.Facts{From: from}, nil)
		none(t, "a variable and no item", api.Facts{Vars: []string{"x"}, From: from})
	}
	back(t, api.Facts{Vars: []string{}, Items: []api.Item{}, From: []int{}}, nil)
}

// P9.1, Same: each field of each part counts, whatever it holds.
func TestSame(t *testing.T) {
	empty := api.Facts{Vars: []string{}, Items: []api.Item{}, From: []int{}}
	same(t, api.Facts{}, empty, true)
	same(t, empty, empty, true)
	l := []api.Facts{
		{}, {Vars: []string{""}}, {Vars: []string{"", ""}}, {Vars: []string{"x"}}, {Vars: []string{"X"}}, {Vars: []string{"x", "y"}}, {Vars: []string{"y", "x"}}, {Vars: []string{"xy"}}, {Vars: []string{"x\x00"}}, {Vars: []string{"\xff"}},
		{From: []int{0}}, {From: []int{0, 0}}, {From: []int{1}}, {From: []int{-1}}, {From: []int{math.MinInt}}, {From: []int{math.MaxInt}}, {From: []int{1, 2}}, {From: []int{2, 1}},
		{Items: make([]api.Item, 1)}, {Items: make([]api.Item, 2)},
	}
	for _, item := range []api.Item{
		{Session: 1}, {Place: 1}, {Write: true}, {Var: 1}, {Val: 1}, {Session: -1}, {Place: -1}, {Var: -1}, {Val: -1}, {Session: math.MaxInt}, {Place: math.MinInt}, {Var: math.MaxInt}, {Val: math.MinInt},
	} {
		l = append(l, api.Facts{Items: []api.Item{item}}, api.Facts{Items: []api.Item{item, {}}}, api.Facts{Items: []api.Item{{}, item}}, api.Facts{Vars: []string{"x"}, Items: []api.Item{item}, From: []int{0}})
	}
	for i, a := range l {
		for j, b := range l {
			same(t, a, copied(b), i == j)
		}
	}
	for _, h := range all() {
		f := interned(h)
		f.From = make([]int, len(f.Items))
		g := copied(f)
		same(t, f, g, true)
		if n := len(g.Items); n > 0 {
			g.Items[n-1].Val++
			same(t, f, g, false)
			g = copied(f)
			g.From[n-1]++
			same(t, f, g, false)
			g = copied(f)
			g.Vars[len(g.Vars)-1] += "q"
			same(t, f, g, false)
			same(t, f, interned(h), false)
		}
	}
}

// P9.2: a history comes back of its facts, but for empty sessions at its end.
func TestThereAndBack(t *testing.T) {
	for _, h := range all() {
		f, err := intern.Of(h)
		if err != api.OK {
			t.Fatalf("Of of %d sessions is refused: %d", len(h), err)
		}
		back(t, f, trimmed(h))
		back(t, f, trimmed(append(slices.Clone(h), nil, nil)))
		g, err := intern.Of(append(slices.Clone(h), nil, []api.Op{}))
		if err != api.OK || !intern.Same(f, g) {
			t.Fatalf("empty sessions at the end count: %s, %d", brief(g), err)
		}
	}
}

// P9.2: unlike histories, but for empty sessions at their ends, have unlike
// facts.
func TestUnlikeHistories(t *testing.T) {
	var l []history
	ops := []api.Op{wr("x", 1), rd("x", 1), rd("y", 1), rd("x", 2)}
	for _, a := range ops {
		l = append(l, history{{a}}, history{{}, {a}})
		for _, b := range ops {
			l = append(l, history{{a, b}}, history{{a}, {b}}, history{{}, {a, b}}, history{{a}, {}, {b}})
		}
	}
	for i, a := range l {
		for j, b := range l {
			f, _ := intern.Of(a)
			g, _ := intern.Of(b)
			same(t, f, g, i == j)
		}
	}
}

// Nothing that is handed in is changed, its spare room neither; what stands in
// the room isn't part of it.
func TestNothingIsChanged(t *testing.T) {
	whole := shaped(3, 5, 4, 3, 2, 2)
	h := slices.Clone(whole)[:3]
	h[0], h[1], h[2] = h[0][:2], h[1][:0], h[2][:1]
	want := interned(history{slices.Clone(h[0]), nil, slices.Clone(h[2])})
	for range 2 {
		of(t, h, want)
	}
	if !reflect.DeepEqual(whole, shaped(3, 5, 4, 3, 2, 2)) || !reflect.DeepEqual(h[:5][3:], whole[3:]) {
		t.Errorf("what was handed in was changed: %v", whole)
	}
	room := interned(shaped(3, 5, 4, 3))
	room.From = []int{1, 2, 3, 4}
	kept := copied(room)
	f := api.Facts{Vars: room.Vars[:2], Items: room.Items[:2], From: room.From[:1]}
	f.Items[0].Var, f.Items[1].Var, kept.Items[0].Var, kept.Items[1].Var = 0, 1, 0, 1
	back(t, f, history{{{Write: f.Items[0].Write, Var: f.Vars[0], Val: f.Items[0].Val}, {Write: f.Items[1].Write, Var: f.Vars[1], Val: f.Items[1].Val}}})
	same(t, f, kept, false)
	f.Items = f.Items[1:]
	none(t, "no first item", f)
	if !equal(room, kept) {
		t.Errorf("what was handed in was changed: %s", brief(room))
	}
}

// An answer is its own: neither what is asked later, nor what becomes of what
// was handed in or of another answer changes it, and a call that was refused
// leaves nothing behind.
func TestAnswersAreTheirOwn(t *testing.T) {
	h := shaped(4, 3, 0, 2)
	want := interned(h)
	f, _ := intern.Of(h)
	g, _ := intern.Of(h)
	b, _ := intern.Back(f)
	c, _ := intern.Back(f)
	refused(t, "too many operations", shaped(2, api.MaxOps+1))
	refused(t, "a wrong name behind others", history{{wr("new", 1)}, {rd("y", 2), rd("", 3)}})
	of(t, history{{wr("one", 1), wr("two", 2)}}, api.Facts{Vars: []string{"one", "two"}, Items: []api.Item{{Write: true, Val: 1}, {Place: 1, Write: true, Var: 1, Val: 2}}})
	for i := range h {
		for j := range h[i] {
			h[i][j] = wr("changed", 0)
			c[i][j] = wr("changed", 1)
		}
		c[i] = append(c[i], wr("more", 1))
	}
	for i := range g.Items {
		g.Items[i] = api.Item{Session: 9, Place: 9}
	}
	for i := range g.Vars {
		g.Vars[i] = "changed"
	}
	if !equal(f, want) || !hist.Same(b, shaped(4, 3, 0, 2)) {
		t.Errorf("the facts have become %s, and the history %v", brief(f), b)
	}
	of(t, shaped(4, 3, 0, 2), want)
	back(t, want, shaped(4, 3, 0, 2))
}
