package differ_test

import (
	"fmt"
	"math"
	"reflect"
	"slices"
	"testing"

	"eyewitness/api"
	"eyewitness/differ"
	"eyewitness/intern"
)

type history = [][]api.Op

// wr is a write, and rd a read.
func wr(name string, val int) api.Op { return api.Op{Write: true, Var: name, Val: val} }
func rd(name string, val int) api.Op { return api.Op{Var: name, Val: val} }

// facts are h, interned.
func facts(t *testing.T, h history) api.Facts {
	t.Helper()
	f, err := intern.Of(h)
	if err != api.OK {
		t.Fatalf("Of of %d sessions = %d", len(h), err)
	}
	return f
}

// brief is what f begins with.
func brief(f api.Facts) string {
	return fmt.Sprintf("{%d variables %.20q, %d items %v, From %v}", len(f.Vars), f.Vars[:min(4, len(f.Vars))], len(f.Items), f.Items[:min(8, len(f.Items))], f.From[:min(4, len(f.From))])
}

func check(t *testing.T, f api.Facts, i, j int, want api.Errno) {
	t.Helper()
	a, b, err := differ.Check(f)
	if a != i || b != j || err != want {
		t.Fatalf("Check of %s = %d, %d, %d, want %d, %d, %d", brief(f), a, b, err, i, j, want)
	}
}

func write(t *testing.T, f api.Facts, v, val, want int) {
	t.Helper()
	if i, ok := differ.Write(f, v, val); i != want || !ok {
		t.Fatalf("Write of %s, %d, %d = %d, %t, want %d, true", brief(f), v, val, i, ok, want)
	}
}

func none(t *testing.T, f api.Facts, v, val int) {
	t.Helper()
	if i, ok := differ.Write(f, v, val); i != 0 || ok {
		t.Fatalf("Write of %s, %d, %d = %d, %t, want 0, false", brief(f), v, val, i, ok)
	}
}

// writer goes through f's items one by one for the first write of val to v.
func writer(f api.Facts, v, val int) int {
	return slices.IndexFunc(f.Items, func(o api.Item) bool { return o.Write && o.Var == v && o.Val == val })
}

// held holds Check and Write of f against the words, with operations held
// against each other one by one.
func held(t *testing.T, f api.Facts, vals []int) {
	t.Helper()
	i, j, want := 0, 0, api.OK
	for at, o := range f.Items {
		if want != api.OK || !o.Write {
			continue
		}
		if o.Val == 0 {
			i, j, want = at, at, api.ErrZero
		} else if first := writer(f, o.Var, o.Val); first < at {
			i, j, want = first, at, api.ErrTwice
		}
	}
	check(t, f, i, j, want)
	for v := -1; v <= len(f.Vars); v++ {
		for _, val := range vals {
			if first := writer(f, v, val); first < 0 {
				none(t, f, v, val)
			} else {
				write(t, f, v, val, first)
			}
		}
	}
}

// name is the n-th of many names, all unlike.
func name(n int) string {
	s := ""
	for ; n > 0; n /= 26 {
		s += string(rune('a' + n%26))
	}
	return s + "z"
}

// unlike are n writes in sessions of length l, of so many names, no two alike.
func unlike(n, l, names int) history {
	h := history{}
	for i := range n {
		if i%l == 0 {
			h = append(h, nil)
		}
		h[len(h)-1] = append(h[len(h)-1], wr(name(i%names), 1+i/names))
	}
	return h
}

// ends are values at the ends of kinds of numbers, and ones that are these
// but for a few bits.
func ends() []int {
	return []int{
		math.MinInt, math.MinInt + 1, math.MaxInt, math.MaxInt - 1, 1, -1, 2, -2, math.MaxInt32, math.MinInt32, 1 << 31, 1 << 32, 1<<32 + 1, -1 << 32, 1<<32 - 1, 1 << 62, 1 << 53, 1<<53 + 1, 255, 256, 257, 65536, 65537,
	}
}

func TestExamples(t *testing.T) {
	check(t, facts(t, history{{wr("x", 1), wr("x", 1)}}), 0, 1, api.ErrTwice)
	check(t, facts(t, history{{wr("x", 0)}}), 0, 0, api.ErrZero)
}

// P10.1, Check: answers that are written out.
func TestCheck(t *testing.T) {
	for _, c := range []struct {
		h    history
		i, j int
		want api.Errno
	}{
		{nil, 0, 0, api.OK},
		{history{{}, nil}, 0, 0, api.OK},
		{history{{wr("x", 1)}}, 0, 0, api.OK},
		{history{{rd("x", 0), rd("x", 0), rd("x", 1), rd("x", 1)}}, 0, 0, api.OK},
		{history{{wr("x", 1), rd("x", 1)}, {rd("x", 1), wr("y", 1), rd("x", 0)}}, 0, 0, api.OK},
		{history{{wr("x", 1)}, {wr("x", -1), wr("x", 2), wr("y", -1), wr("y", 2)}}, 0, 0, api.OK},
		{history{{wr("x", 2), wr("y", 1)}, {wr("y", 2), wr("x", 1)}}, 0, 0, api.OK},
		{history{{rd("x", 0)}, {}, {rd("x", 3), wr("x", 0)}}, 2, 2, api.ErrZero},
		{history{{wr("x", 1), wr("x", 0), wr("x", 0)}}, 1, 1, api.ErrZero},
		{history{{wr("x", 0), wr("x", 0)}}, 0, 0, api.ErrZero},
		{history{{wr("x", 1)}, {wr("y", 0), wr("x", 1)}}, 1, 1, api.ErrZero},
		{history{{wr("x", 1)}, {wr("x", 1), wr("y", 0)}}, 0, 1, api.ErrTwice},
		{history{{rd("x", 1), wr("x", 1)}, {rd("x", 1)}, {wr("y", 1), wr("x", 1)}}, 1, 4, api.ErrTwice},
		{history{{wr("x", 1), wr("x", 1), wr("x", 1)}}, 0, 1, api.ErrTwice},
		{history{{wr("x", 1), wr("y", 2)}, {wr("y", 2), wr("x", 1)}}, 1, 2, api.ErrTwice},
		{history{{wr("x", 1), wr("y", 2)}, {wr("x", 1), wr("y", 2)}}, 0, 2, api.ErrTwice},
		{history{{}, {wr("a", 1), wr("b", 1), wr("c", 1)}, {}, {wr("c", 2), wr("b", 2), wr("b", 1)}}, 1, 5, api.ErrTwice},
	} {
		check(t, facts(t, c.h), c.i, c.j, c.want)
	}
}

// P10.1, Write: answers that are written out; a write of 0 is one, and of two
// that are alike the first one is told, in whatever session it is.
func TestWrite(t *testing.T) {
	f := facts(t, history{{rd("x", 1), wr("y", 1), wr("x", 2)}, {wr("x", 1), rd("y", 7), wr("y", 0)}, {wr("x", 1), wr("y", 0), wr("y", 1), wr("x", 2)}})
	write(t, f, 0, 1, 3)
	write(t, f, 0, 2, 2)
	write(t, f, 1, 1, 1)
	write(t, f, 1, 0, 5)
	none(t, f, 0, 0)
	none(t, f, 1, 2)
	none(t, f, 1, 7)
	none(t, f, 0, -1)
	write(t, facts(t, history{{wr("x", 5)}}), 0, 5, 0)
	none(t, facts(t, history{{rd("x", 5)}}), 0, 5)
	for _, v := range append(ends(), 0, 3) {
		for _, val := range append(ends(), 0) {
			none(t, api.Facts{}, v, val)
			if v != 0 && v != 1 {
				none(t, f, v, val)
			}
		}
	}
}

// P10.1: all histories of up to 4 operations on 2 variables and 3 values, cut
// into sessions in some way.
func TestSmall(t *testing.T) {
	var ops []api.Op
	for _, v := range []string{"x", "y"} {
		for val := range 3 {
			ops = append(ops, wr(v, val), rd(v, val))
		}
	}
	count := 0
	var more func(h history, left int)
	more = func(h history, left int) {
		held(t, facts(t, h), []int{-1, 0, 1, 2, 3})
		if count++; left == 0 {
			return
		}
		for i, o := range ops {
			g := slices.Clone(h)
			if last := len(g) - 1; last >= 0 && (i+left)%3 != 0 {
				g[last] = append(slices.Clone(g[last]), o)
			} else {
				g = append(g, []api.Op{o})
			}
			more(g, left-1)
		}
	}
	more(nil, 4)
	if want := 1 + 12 + 12*12 + 12*12*12 + 12*12*12*12; count != want {
		t.Errorf("%d histories, want %d", count, want)
	}
}

// P10.1: where operations are cut into sessions doesn't count.
func TestSessionsDontCount(t *testing.T) {
	ops := []api.Op{wr("x", 1), rd("x", 1), wr("y", 1), wr("z", 2), wr("y", 1), wr("x", 0), wr("x", 1)}
	for cuts := range 1 << (len(ops) - 1) {
		h := history{nil}
		for i, o := range ops {
			h[len(h)-1] = append(h[len(h)-1], o)
			if cuts>>i&1 != 0 {
				h = append(h, nil)
			}
		}
		f := facts(t, h)
		check(t, f, 2, 4, api.ErrTwice)
		write(t, f, 1, 1, 2)
		write(t, f, 0, 0, 5)
	}
}

// P10.1: values to the ends of int, each unlike all others, as are a variable
// and a value from these turned round, and put together.
func TestValues(t *testing.T) {
	h := history{}
	for _, val := range ends() {
		h = append(h, []api.Op{wr("x", val), rd("x", val), wr("y", val)})
	}
	f := facts(t, h)
	check(t, f, 0, 0, api.OK)
	for i, val := range ends() {
		write(t, f, 0, val, 3*i)
		write(t, f, 1, val, 3*i+2)
		g := facts(t, append(slices.Clone(h), []api.Op{rd("y", val), wr("y", val)}))
		check(t, g, 3*i+2, 3*len(h)+1, api.ErrTwice)
	}
	none(t, f, 0, 0)
	none(t, f, 0, 3)
	none(t, f, 0, 1<<33)
	var vals []int
	for n := range 130 {
		vals = append(vals, n-1)
	}
	square := history{}
	for v := range 50 {
		square = append(square, nil)
		for val := range 50 {
			square[v] = append(square[v], wr(name(v), val+1))
		}
	}
	held(t, facts(t, square), vals)
}

// changed are the facts of h, whose sessions have the length l, with o for the
// operation at that number.
func changed(t *testing.T, h history, l, at int, o api.Op) api.Facts {
	t.Helper()
	h = slices.Clone(h)
	h[at/l] = slices.Clone(h[at/l])
	h[at/l][at%l] = o
	return facts(t, h)
}

// P10.1: one write made wrong in histories of the most operations, in few and
// in many sessions, of few and of many variables.
func TestMost(t *testing.T) {
	last := api.MaxOps - 1
	for _, c := range []struct{ l, names int }{{api.MaxOps, 1}, {api.MaxOps, api.MaxOps}, {1, 7}, {64, 64}, {1000, 300}} {
		h := unlike(api.MaxOps, c.l, c.names)
		check(t, facts(t, h), 0, 0, api.OK)
		for _, at := range []int{0, 1, 2047, 2048, last - 1, last} {
			was := h[at/c.l][at%c.l]
			f := facts(t, h)
			write(t, f, f.Items[at].Var, was.Val, at)
			none(t, f, f.Items[at].Var, api.MaxOps+1)
			f = changed(t, h, c.l, at, wr(was.Var, 0))
			check(t, f, at, at, api.ErrZero)
			write(t, f, f.Items[at].Var, 0, at)
			f = changed(t, h, c.l, at, rd(was.Var, was.Val))
			check(t, f, 0, 0, api.OK)
			none(t, f, f.Items[at].Var, was.Val)
			for _, to := range []int{0, 1, 2047, last - 2, last} {
				if at == to {
					continue
				}
				f = changed(t, h, c.l, at, h[to/c.l][to%c.l])
				check(t, f, min(at, to), max(at, to), api.ErrTwice)
				write(t, f, f.Items[to].Var, f.Items[to].Val, min(at, to))
			}
		}
	}
}

// P10.1: From doesn't count, whatever it holds.
func TestFrom(t *testing.T) {
	h := history{{wr("x", 1), rd("y", 0)}, {rd("x", 1), wr("y", 2)}, {wr("y", 2)}}
	f := facts(t, h)
	for _, from := range [][]int{nil, {}, {0}, {api.Itself, api.Init, 0, api.Itself, api.Itself}, {math.MaxInt, math.MinInt}, make([]int, 5000)} {
		f.From = from
		check(t, f, 3, 4, api.ErrTwice)
		write(t, f, 1, 2, 3)
		write(t, f, 0, 1, 0)
		none(t, f, 1, 0)
	}
}

// P10.2: of differentiated histories each write is the one that is found by
// its value, and no other operation writes it; of others some aren't.
func TestOnlyOne(t *testing.T) {
	var l []history
	for n := range 60 {
		h := unlike(2*n, 1+n%9, 1+n%5)
		l = append(l, h)
		if n > 2 {
			h = unlike(2*n, 1+n%9, 1+n%5)
			for i := range h {
				h[i][n%len(h[i])].Write = n%2 == 0 && i > 0
			}
			l = append(l, h)
			h = unlike(2*n, 1+n%9, 1+n%5)
			h[n%len(h)][0] = wr("z", 1+n%3)
			l = append(l, h)
		}
	}
	good, bad := 0, 0
	for _, h := range l {
		f := facts(t, h)
		only := true
		for i, o := range f.Items {
			if !o.Write {
				continue
			}
			first, ok := differ.Write(f, o.Var, o.Val)
			if !ok || first > i {
				t.Fatalf("Write of %s, %d, %d = %d, %t, but %d is such a write", brief(f), o.Var, o.Val, first, ok, i)
			}
			only = only && first == i
		}
		_, _, err := differ.Check(f)
		if only != (err == api.OK) {
			t.Fatalf("Check of %s = %d, but that each write is the only one of its value is %t", brief(f), err, only)
		}
		if only {
			good++
		} else {
			bad++
		}
	}
	if good < 60 || bad < 20 {
		t.Errorf("%d histories are differentiated, %d aren't", good, bad)
	}
}

// Nothing that is handed in is changed, its spare room neither; what stands in
// the room isn't part of it, and nothing is kept from call to call.
func TestNothingIsChangedOrKept(t *testing.T) {
	whole := facts(t, history{{wr("x", 1), rd("y", 1), wr("y", 1)}, {wr("x", 1), wr("y", 0)}})
	whole.From = []int{api.Itself, 2, api.Itself, api.Itself, api.Itself}
	kept := api.Facts{Vars: slices.Clone(whole.Vars), Items: slices.Clone(whole.Items), From: slices.Clone(whole.From)}
	f := api.Facts{Vars: whole.Vars[:2], Items: whole.Items[:3], From: whole.From[:1]}
	less := api.Facts{Vars: whole.Vars[:1], Items: whole.Items[:1]}
	for range 3 {
		check(t, f, 0, 0, api.OK)
		write(t, f, 1, 1, 2)
		none(t, f, 1, 0)
		check(t, whole, 0, 3, api.ErrTwice)
		write(t, whole, 1, 0, 4)
		check(t, less, 0, 0, api.OK)
		write(t, less, 0, 1, 0)
		none(t, less, 1, 1)
	}
	if !reflect.DeepEqual(whole, kept) {
		t.Errorf("what was handed in was changed: %s", brief(whole))
	}
}
