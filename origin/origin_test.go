package origin_test

import (
	"fmt"
	"math"
	"reflect"
	"slices"
	"testing"

	"eyewitness/api"
	"eyewitness/differ"
	"eyewitness/intern"
	"eyewitness/origin"
)

type history = [][]api.Op

// wr is a write, and rd a read.
func wr(name string, val int) api.Op { return api.Op{Write: true, Var: name, Val: val} }
func rd(name string, val int) api.Op { return api.Op{Var: name, Val: val} }

// facts are h, interned; h must be differentiated.
func facts(t *testing.T, h history) api.Facts {
	t.Helper()
	f, err := intern.Of(h)
	if err != api.OK {
		t.Fatalf("Of of %d sessions = %d", len(h), err)
	}
	if i, j, err := differ.Check(f); err != api.OK {
		t.Fatalf("%s isn't differentiated: %d, %d, %d", brief(f), i, j, err)
	}
	return f
}

// with is f with this From.
func with(f api.Facts, from ...int) api.Facts {
	f.From = from
	return f
}

// brief is what f begins with.
func brief(f api.Facts) string {
	return fmt.Sprintf("{%d variables %.20q, %d items %v, %d From %v}", len(f.Vars), f.Vars[:min(4, len(f.Vars))], len(f.Items), f.Items[:min(8, len(f.Items))], len(f.From), f.From[:min(8, len(f.From))])
}

// copied is f in memory of its own.
func copied(f api.Facts) api.Facts {
	return api.Facts{Vars: slices.Clone(f.Vars), Items: slices.Clone(f.Items), From: slices.Clone(f.From)}
}

func fill(t *testing.T, f api.Facts, want ...int) {
	t.Helper()
	g := origin.Fill(f)
	if !slices.Equal(g.From, want) {
		t.Fatalf("Fill of %s has From %v, want %v", brief(f), g.From[:min(40, len(g.From))], want[:min(40, len(want))])
	}
	if !slices.Equal(g.Vars, f.Vars) || !slices.Equal(g.Items, f.Items) {
		t.Fatalf("Fill of %s = %s, whose variables or items are others", brief(f), brief(g))
	}
	whole(t, g, true)
}

func whole(t *testing.T, f api.Facts, want bool) {
	t.Helper()
	if got := origin.Whole(f); got != want {
		t.Fatalf("Whole of %s = %t, want %t", brief(f), got, want)
	}
}

func readers(t *testing.T, f api.Facts, w int, want ...int) {
	t.Helper()
	if got := origin.Readers(f, w); !slices.Equal(got, want) {
		t.Fatalf("Readers of %s, %d = %v, want %v", brief(f), w, got, want)
	}
}

// froms are what the items of f read from, by the words alone: each of them
// held against all others.
func froms(f api.Facts) []int {
	l := make([]int, len(f.Items))
	for i, o := range f.Items {
		l[i] = slices.IndexFunc(f.Items, func(w api.Item) bool { return w.Write && w.Var == o.Var && w.Val == o.Val })
		if o.Write {
			l[i] = api.Itself
		} else if l[i] < 0 && o.Val == 0 {
			l[i] = api.Init
		} else if l[i] < 0 {
			l[i] = api.Thin
		}
	}
	return l
}

// numbers are those of all items of f, ones that no item has, and what stands
// in From for no write.
func numbers(f api.Facts) []int {
	l := []int{math.MinInt, math.MinInt + 1, -1 << 32, -5, -4, api.Itself, api.Thin, api.Init}
	for i := range f.Items {
		l = append(l, i)
	}
	n := len(f.Items)
	return append(l, n, n+1, n+63, n+64, 1<<32, 1<<32+1, math.MaxInt)
}

// held holds all that is asked of f against the words.
func held(t *testing.T, f api.Facts) {
	t.Helper()
	want := froms(f)
	fill(t, f, want...)
	whole(t, f, slices.Equal(f.From, want))
	g := origin.Fill(f)
	by := map[int][]int{}
	for i, w := range want {
		if w >= 0 {
			by[w] = append(by[w], i)
		}
	}
	for _, w := range numbers(f) {
		readers(t, g, w, by[w]...)
	}
}

// name is the n-th of many names, all unlike.
func name(n int) string {
	s := ""
	for ; n > 0; n /= 26 {
		s += string(rune('a' + n%26))
	}
	return s + "z"
}

// cut puts operations into sessions of the length l.
func cut(ops []api.Op, l int) history { return slices.Collect(slices.Chunk(ops, l)) }

// mixed are n operations on so many variables: of each 5 of them 2 writes, all
// unlike, and 3 reads, of what was written ahead of them, of what is written
// later, or isn't at all, and of 0.
func mixed(n, names int) []api.Op {
	var ops []api.Op
	for i := range n {
		v, val := name(i/5%names), 1+i/5/names
		switch i % 5 {
		case 0:
			ops = append(ops, wr(v, val))
		case 1:
			ops = append(ops, wr(v, -val))
		case 2:
			ops = append(ops, rd(v, 1+val/2))
		case 3:
			ops = append(ops, rd(name(i%names), -1-i%(n/names+1)/3))
		case 4:
			ops = append(ops, rd(v, i%3*val))
		}
	}
	return ops
}

// ends are values at the ends of kinds of numbers, and ones that are these
// but for a few bits.
func ends() []int {
	return []int{
		math.MinInt, math.MinInt + 1, math.MaxInt, math.MaxInt - 1, 1, -1, -2, -3, math.MaxInt32, math.MinInt32, 1 << 31, 1 << 32, 1<<32 + 1, -1 << 32, 1<<32 - 1, 1 << 62, 1 << 53, 1<<53 + 1, 255, 256, 257, 65536, 65537,
	}
}

func TestExample(t *testing.T) {
	fill(t, facts(t, history{{wr("x", 1), rd("x", 1), rd("x", 0), rd("x", 2)}}), -3, 0, -1, -2)
}

// P11.1, Fill and Whole: answers that are written out.
func TestFill(t *testing.T) {
	for _, c := range []struct {
		h    history
		want []int
	}{
		{nil, nil},
		{history{{}, nil}, nil},
		{history{{wr("x", 1)}}, []int{-3}},
		{history{{rd("x", 0)}}, []int{-1}},
		{history{{rd("x", 1)}}, []int{-2}},
		{history{{rd("x", -1), rd("x", -2), rd("x", -3)}}, []int{-2, -2, -2}},
		{history{{wr("x", -1), wr("x", -2), wr("x", -3)}, {rd("x", -3), rd("x", -1), rd("x", -2)}}, []int{-3, -3, -3, 2, 0, 1}},
		{history{{rd("x", 1), wr("x", 1)}}, []int{1, -3}},
		{history{{rd("x", 1)}, {}, {wr("y", 1), wr("x", 1)}}, []int{2, -3, -3}},
		{history{{wr("x", 1)}, {rd("y", 1), wr("y", 2), rd("x", 2)}}, []int{-3, -2, -3, -2}},
		{history{{wr("x", 2), wr("y", 1)}, {rd("x", 1), rd("y", 2), rd("x", 2), rd("y", 1)}}, []int{-3, -3, -2, -2, 0, 1}},
		{history{{rd("x", 0), wr("x", 1), rd("x", 0), wr("x", 2)}, {rd("x", 0), rd("x", 2), rd("x", 2), rd("x", 1)}}, []int{-1, -3, -1, -3, -1, 3, 3, 1}},
	} {
		f := facts(t, c.h)
		fill(t, f, c.want...)
		whole(t, with(f, c.want...), true)
		whole(t, f, len(c.want) == 0)
	}
}

// P11.1, Whole: one number of From changed, left out, or put in.
func TestWhole(t *testing.T) {
	f := facts(t, history{{wr("x", 1), rd("x", 1), rd("x", 0)}, {rd("x", 2), wr("y", 2), rd("y", 2), rd("x", 1)}})
	right := []int{-3, 0, -1, -2, -3, 4, 0}
	whole(t, with(f, right...), true)
	for at := range right {
		for _, n := range numbers(f) {
			from := slices.Clone(right)
			from[at] = n
			whole(t, with(f, from...), n == right[at])
			whole(t, with(f, slices.Insert(slices.Clone(right), at, n)...), false)
		}
		whole(t, with(f, right[:at]...), false)
		whole(t, with(f, right[at+1:]...), false)
		whole(t, with(f, slices.Delete(slices.Clone(right), at, at+1)...), false)
	}
	for _, n := range numbers(f) {
		whole(t, with(f, append(slices.Clone(right), n)...), false)
		whole(t, with(api.Facts{}, n), false)
	}
	whole(t, with(f, make([]int, 7)...), false)
	whole(t, with(f, append(right, right...)...), false)
	whole(t, api.Facts{}, true)
	whole(t, api.Facts{Vars: []string{}, Items: []api.Item{}, From: []int{}}, true)
}

// P11.1, Readers: answers that are written out; what stands in From for no
// write has no readers, however often it is there.
func TestReaders(t *testing.T) {
	f := origin.Fill(facts(t, history{{rd("x", 1), wr("x", 1), rd("x", 1), rd("x", 0)}, {}, {rd("x", 1), wr("y", 1), wr("x", 2), rd("x", 0), rd("y", 3), rd("x", 2)}}))
	readers(t, f, 1, 0, 2, 4)
	readers(t, f, 5)
	readers(t, f, 6, 9)
	for _, w := range numbers(f) {
		if w != 1 && w != 6 {
			readers(t, f, w)
		}
		readers(t, api.Facts{}, w)
		readers(t, origin.Fill(facts(t, history{{rd("x", 0), rd("x", 0), rd("x", 1)}})), w)
		readers(t, origin.Fill(facts(t, history{{wr("x", 1), wr("y", 1)}})), w)
	}
}

// P11.1: all differentiated histories of up to 4 operations on 2 variables and
// 3 values, cut into sessions in some way.
func TestSmall(t *testing.T) {
	ops := []api.Op{wr("x", 1), wr("x", 2), wr("y", 1), wr("y", 2)}
	for val := range 3 {
		ops = append(ops, rd("x", val), rd("y", val))
	}
	count := 0
	var more func(h []api.Op)
	more = func(h []api.Op) {
		held(t, facts(t, cut(h, 1+count%4)))
		count++
		for _, o := range ops {
			if len(h) < 4 && !(o.Write && slices.Contains(h, o)) {
				more(append(slices.Clone(h), o))
			}
		}
	}
	more(nil)
	// Of n operations so many are writes, all unlike: k of n places, 4, 3, ..
	// writes, and 6 reads for each of the other places.
	want := 1 + (6 + 4) + (36 + 2*4*6 + 12) + (216 + 3*4*36 + 3*12*6 + 24) + (1296 + 4*4*216 + 6*12*36 + 4*24*6 + 24)
	if count != want {
		t.Errorf("%d histories, want %d", count, want)
	}
}

// P11.1: where operations are cut into sessions doesn't count.
func TestSessionsDontCount(t *testing.T) {
	ops := []api.Op{rd("x", 2), wr("x", 1), rd("y", 0), rd("x", 1), wr("x", 2), rd("y", 1), rd("x", 1)}
	for cuts := range 1 << (len(ops) - 1) {
		h := history{nil}
		for i, o := range ops {
			h[len(h)-1] = append(h[len(h)-1], o)
			if cuts>>i&1 != 0 {
				h = append(h, nil)
			}
		}
		f := facts(t, h)
		fill(t, f, 4, -3, -1, 1, -3, -2, 1)
		readers(t, origin.Fill(f), 1, 3, 6)
		readers(t, origin.Fill(f), 4, 0)
	}
}

// P11.1: values to the ends of int, each unlike all others; a variable and a
// value aren't what these are turned round, or put together.
func TestValues(t *testing.T) {
	var ops []api.Op
	for i, val := range ends() {
		ops = append(ops, wr("x", val), rd("y", val))
		if i%2 == 0 {
			ops = append(ops, wr("y", val))
		}
		ops = append(ops, rd("x", val), rd("x", val+7), rd("z", val), rd("x", 0))
	}
	held(t, facts(t, cut(ops, 9)))
	var square []api.Op
	for v := range 40 {
		for val := range 40 {
			if (v*v+val*7)%5 != 0 {
				square = append(square, wr(name(v), val+1))
			}
			square = append(square, rd(name(v), val+1))
		}
	}
	held(t, facts(t, cut(square, 100)))
	f := facts(t, history{{wr("x", 1), wr("y", 3)}, {rd("x", 3), rd("y", 1), rd("x", 0), rd("y", 0)}})
	fill(t, f, -3, -3, -2, -2, -1, -1)
}

// P11.1: the most operations, in few and in many sessions, of few and of many
// variables.
func TestMost(t *testing.T) {
	for _, c := range []struct{ l, names int }{{api.MaxOps, 1}, {1, 7}, {64, 64}, {1000, 300}} {
		held(t, facts(t, cut(mixed(api.MaxOps, c.names), c.l)))
	}
	last := api.MaxOps - 1
	for _, at := range []int{0, 1, 2048, last} {
		ops := slices.Repeat([]api.Op{rd("x", 1)}, api.MaxOps)
		from := make([]int, api.MaxOps)
		for i := range from {
			from[i] = api.Thin
		}
		fill(t, facts(t, cut(ops, 100)), from...)
		ops[at] = wr("x", 1)
		var all []int
		for i := range from {
			if from[i] = at; i != at {
				all = append(all, i)
			}
		}
		from[at] = api.Itself
		f := facts(t, cut(ops, 100))
		fill(t, f, from...)
		readers(t, with(f, from...), at, all...)
		readers(t, with(f, from...), last/2)
		from[last/3] = api.Init
		whole(t, with(f, from...), false)
	}
}

// P11.1: what From was doesn't count for Fill, whatever it holds.
func TestFrom(t *testing.T) {
	f := facts(t, history{{wr("x", 1), rd("y", 0)}, {rd("x", 1), wr("y", 2)}})
	for _, from := range [][]int{nil, {}, {0}, {-3, -1, 0, -3}, {-3, -1, 0, -3, 0}, {-3, -1, 0}, {0, 0, 0, 0}, {math.MaxInt, math.MinInt}, make([]int, 5000)} {
		fill(t, with(f, from...), -3, -1, 0, -3)
		held(t, with(f, from...))
		fill(t, with(api.Facts{}, from...))
		whole(t, with(api.Facts{}, from...), len(from) == 0)
	}
}

// P11.2: what a read reads from is a write of its value to its variable, the
// one that layer 10 finds; what isn't written is read from the beginning, if
// it is 0, or out of thin air; and each read that reads from a write is just
// once among its readers.
func TestReadsAreOfWhatWasWritten(t *testing.T) {
	reads := map[int]int{}
	for n := range 40 {
		f := origin.Fill(facts(t, cut(mixed(10+4*n, 1+n%6), 1+n%11)))
		times := make([]int, len(f.Items))
		for w, o := range f.Items {
			for _, r := range origin.Readers(f, w) {
				if times[r]++; !o.Write || f.From[r] != w {
					t.Fatalf("%d of %s is read by %d", w, brief(f), r)
				}
			}
		}
		for i, o := range f.Items {
			from := f.From[i]
			w, written := differ.Write(f, o.Var, o.Val)
			ok := o.Write && from == api.Itself
			if !o.Write && written {
				ok = from == w && f.Items[w] == api.Item{Session: f.Items[w].Session, Place: f.Items[w].Place, Write: true, Var: o.Var, Val: o.Val}
			} else if !o.Write {
				ok = from == api.Thin && o.Val != 0 || from == api.Init && o.Val == 0
			}
			if !ok || times[i] != 0 != (from >= 0) || times[i] > 1 {
				t.Fatalf("%d of %s reads from %d, and is among %d writes' readers", i, brief(f), from, times[i])
			}
			reads[min(from, 0)]++
		}
	}
	for _, from := range []int{api.Itself, api.Thin, api.Init, 0} {
		if reads[from] < 100 {
			t.Errorf("only %d items are of the kind %d", reads[from], from)
		}
	}
}

// Nothing that is handed in is changed, its spare room neither; what stands in
// the room isn't part of it, and nothing is kept from call to call.
func TestNothingIsChangedOrKept(t *testing.T) {
	room := facts(t, history{{rd("x", 1), wr("x", 2), rd("y", 3)}, {wr("x", 1), wr("y", 3), rd("x", 2)}})
	room.From = []int{7, 8, 9, 7, 8, 9, 7}
	kept := copied(room)
	f := api.Facts{Vars: room.Vars[:2], Items: room.Items[:3], From: room.From[:1]}
	filled := api.Facts{Vars: room.Vars[:1], Items: room.Items[:2], From: []int{-2, -3, 1, 1}[:2]}
	for range 3 {
		fill(t, f, -2, -3, -2)
		whole(t, f, false)
		fill(t, room, 3, -3, 4, -3, -3, 1)
		whole(t, room, false)
		whole(t, filled, true)
		readers(t, filled, 1)
		readers(t, origin.Fill(room), 1, 5)
	}
	if !reflect.DeepEqual(room, kept) || !slices.Equal(filled.From[:4], []int{-2, -3, 1, 1}) {
		t.Errorf("what was handed in was changed: %s, %s", brief(room), brief(filled))
	}
}

// An answer is its own: what becomes of what was handed in, or of another
// answer, doesn't change it.
func TestAnswersAreTheirOwn(t *testing.T) {
	f := facts(t, history{{wr("x", 1), rd("x", 1)}, {rd("y", 0)}})
	f.From = []int{-3, 0, -1}
	kept := copied(f)
	g, h := origin.Fill(f), origin.Fill(f)
	l := origin.Readers(f, 0)
	for _, a := range []api.Facts{f, g} {
		a.Vars[0], a.Items[1], a.From[1] = "changed", api.Item{Var: 9}, 9
	}
	if !reflect.DeepEqual(h, kept) || !slices.Equal(l, []int{1}) {
		t.Errorf("answers have become %s, %v", brief(h), l)
	}
}
